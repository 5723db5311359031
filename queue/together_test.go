package queue_test

import (
	"math"
	"reflect"
	"slices"
	"sync"
	"sync/atomic"
	"testing"
	"time"
	"unsafe"

	"herald/api"
	"herald/queue"
)

// done is a call that one of several goroutines made: when it began, when it ended, and what it answered.
type done struct {
	call       call
	answer     answer
	begin, end int64
}

// together makes the calls of each script in a goroutine of its own, all at one time.
func together(q *queue.Queue, scripts ...[]call) [][]done {
	var clock, ready atomic.Int64
	var all sync.WaitGroup
	lines := make([][]done, len(scripts))
	for i, script := range scripts {
		all.Go(func() {
			line := make([]done, 0, len(script))
			// All begin as nearly at one time as can be: who waits looks on, but not for ever, if there is one core alone.
			ready.Add(1)
			for waited := 0; ready.Load() < int64(len(scripts)) && waited < 10000; waited++ {
			}
			for _, x := range script {
				d := done{call: x, begin: clock.Add(1)}
				d.answer = x.on(q)
				d.end = clock.Add(1)
				line = append(line, d)
			}
			lines[i] = line
		})
	}
	all.Wait()
	return lines
}

// inARow tells whether what was answered is what the calls answer one behind the other, in some order in which none comes ahead of one that had ended when it began.
func inARow(g again, q *queue.Queue, lines [][]done) bool {
	rest := 0
	for i, line := range lines {
		if len(line) == 0 {
			continue
		}
		rest++
		if slices.ContainsFunc(lines, func(other []done) bool { return len(other) > 0 && other[0].end < line[0].begin }) {
			continue
		}
		next := g
		if !line[0].call.again(&next).is(line[0].answer) {
			continue
		}
		others := slices.Clone(lines)
		others[i] = line[1:]
		if inARow(next, q, others) {
			return true
		}
	}
	return rest == 0 && g.last == q.Last() && sameAll(g.items, q.Next(math.MaxInt))
}

// TestInARow: P10.9, what several goroutines are answered at one time, and what the queue is then, is what some order of the calls makes.
func TestInARow(t *testing.T) {
	for seed := range uint64(4000) {
		c := chanceOf(seed, 9)
		room := pick(c, 1, 2, 3)
		scripts := make([][]call, pick(c, 2, 2, 2, 3))
		for i := range scripts {
			for range 5 {
				stamp := 1 + c.IntN(6)
				scripts[i] = append(scripts[i], pick(c, putting(stamp), putting(stamp), collapsing(stamp), tooking(stamp), nexting(room), call{kind: "len"}, call{kind: "last"}))
			}
		}
		q := made(t, room, 0)
		lines := together(q, scripts...)
		if !inARow(again{room: room}, q, lines) {
			t.Fatalf("P10.9: seed %d: no order of the calls makes %s, and %s in the end", seed, tell(lines), tell(q.Next(room)))
		}
	}
}

// TestNoneTwice: P10.9, of goroutines that all put the same stamps just one is told that it did, and what is put is taken once.
func TestNoneTwice(t *testing.T) {
	const workers, stamps = 4, 2000
	q := made(t, 3, 0)
	var put [stamps + 1]atomic.Int64
	var took, full atomic.Int64
	var all sync.WaitGroup
	for worker := range workers {
		all.Go(func() {
			for stamp := 1; stamp <= stamps; {
				switch q.Put(stamp, tagged(stamp)) {
				case api.OK:
					put[stamp].Add(1)
					stamp++
				case api.ErrQueue:
					stamp++
				default:
					full.Add(1)
					took.Add(int64(q.Took(q.Last() - worker)))
				}
			}
		})
	}
	all.Wait()
	puts := 0
	for stamp := 1; stamp <= stamps; stamp++ {
		if n := put[stamp].Load(); n > 1 {
			t.Errorf("P10.9: %d is put %d times", stamp, n)
		}
		puts += int(put[stamp].Load())
	}
	count(t, "P10.9: what was put, but what was taken and what is there", puts-int(took.Load())-q.Len(), 0)
	if full.Load() == 0 {
		t.Error("the queue was never full")
	}
	lawful(t, q, 3)
}

// TestTold: P10.9, what Next tells while others put, collapse and take is a queue as it was at one time, each item whole.
func TestTold(t *testing.T) {
	q := made(t, 4, 0)
	var ended atomic.Bool
	var writers, readers sync.WaitGroup
	for range 2 {
		writers.Go(func() {
			for stamp := 1; stamp <= 4000; stamp++ {
				if stamp%5 == 0 {
					q.Collapse(stamp, parts(stamp))
				} else {
					q.Put(stamp, tagged(stamp))
				}
				q.Took(stamp - 3)
			}
		})
	}
	for range 2 {
		readers.Go(func() {
			for !ended.Load() {
				if items := q.Next(9); !wholeRun(items) {
					t.Errorf("P10.9: Next tells %s", tell(items))
					return
				}
			}
		})
	}
	writers.Wait()
	ended.Store(true)
	readers.Wait()
	lawful(t, q, 4)
}

// wholeRun tells whether items are as the samples make them, each behind the one ahead of it, a marker at the beginning at most.
func wholeRun(items []api.Item) bool {
	for i, item := range items {
		want := event(item.Stamp, item.After)
		if item.Marker {
			want = marker(item.Stamp, item.After)
		}
		if !same(item, want) || item.Marker && i > 0 || i > 0 && item.After != items[i-1].Stamp {
			return false
		}
	}
	return len(items) <= 4
}

// lockOf is the mutex of a queue.
func lockOf(t *testing.T, q *queue.Queue) *sync.Mutex {
	t.Helper()
	fields := reflect.ValueOf(q).Elem()
	for i := range fields.NumField() {
		if f := fields.Field(i); f.Type() == reflect.TypeFor[sync.Mutex]() {
			return (*sync.Mutex)(unsafe.Pointer(f.UnsafeAddr()))
		}
	}
	t.Fatal("P10.9: a queue has no mutex")
	return nil
}

// TestAllWait: P10.9, each call waits as long as another one goes on, in a zero queue too, and lets the lock go, whether it is refused or not.
func TestAllWait(t *testing.T) {
	calls := []call{putting(3), putting(1), {kind: "put", number: 9}, collapsing(4), collapsing(1), {kind: "collapse", number: 9}, nexting(2), nexting(0), tooking(3), tooking(0), {kind: "len"}, {kind: "last"}}
	for _, x := range calls {
		for _, q := range []*queue.Queue{made(t, 1, 2), filled(t, 2, 0, 2), {}} {
			lock := lockOf(t, q)
			lock.Lock()
			begun, ended := make(chan int), make(chan int)
			go func() {
				close(begun)
				x.on(q)
				close(ended)
			}()
			<-begun
			select {
			case <-ended:
				t.Errorf("P10.9: %s did not wait", x.kind)
			case <-time.After(2 * time.Millisecond):
			}
			lock.Unlock()
			<-ended
			if !lock.TryLock() {
				t.Fatalf("P10.9: %s %d did not let the lock go", x.kind, x.number)
			}
			lock.Unlock()
		}
	}
}

// TestNilTogether: P10.8 and P10.9, a nil queue may be called from several goroutines.
func TestNilTogether(t *testing.T) {
	var q *queue.Queue
	script := []call{putting(1), collapsing(1), nexting(3), tooking(1), {kind: "len"}, {kind: "last"}}
	for range 50 {
		if lines := together(q, script, script); !inARow(again{}, q, lines) {
			t.Fatalf("P10.8: %s", tell(lines))
		}
	}
}
