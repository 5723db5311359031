package view_test

import (
	"reflect"
	"slices"
	"sync"
	"sync/atomic"
	"testing"
	"time"
	"unsafe"

	"herald/api"
	"herald/view"
)

// done is a call that one of several goroutines made: when it began, when it ended, and what it answered.
type done struct {
	call       call
	answer     answer
	begin, end int64
}

// together makes the calls of each script in a goroutine of its own, all at one time.
func together(s *view.Service, scripts ...[]call) [][]done {
	var clock, ready atomic.Int64
	var all sync.WaitGroup
	lines := make([][]done, len(scripts))
	for i, script := range scripts {
		all.Go(func() {
			line := make([]done, 0, len(script))
			// All begin as nearly at one time as can be: who waits looks on, but not for ever, if there is one core alone.
			ready.Add(1)
			for waited := 0; ready.Load() < int64(len(scripts)) && waited < 10000; waited++ {
			}
			for _, x := range script {
				d := done{call: x, begin: clock.Add(1)}
				d.answer = x.on(s)
				d.end = clock.Add(1)
				line = append(line, d)
			}
			lines[i] = line
		})
	}
	all.Wait()
	return lines
}

// inARow tells whether what was answered is what the calls answer one behind the other, in some order in which none comes ahead of one that had ended when it began.
func inARow(g again, s *view.Service, lines [][]done) bool {
	rest := 0
	for i, line := range lines {
		if len(line) == 0 {
			continue
		}
		rest++
		if slices.ContainsFunc(lines, func(other []done) bool { return len(other) > 0 && other[0].end < line[0].begin }) {
			continue
		}
		next := g
		if !line[0].call.again(&next).is(line[0].answer) {
			continue
		}
		others := slices.Clone(lines)
		others[i] = line[1:]
		if inARow(next, s, others) {
			return true
		}
	}
	return rest == 0 && g.isLike(s)
}

// TestInARow: P12.6, what several goroutines are answered at one time, and what the service is then, is what some order of the calls makes.
func TestInARow(t *testing.T) {
	for seed := range uint64(4000) {
		c := chanceOf(seed, 9)
		scripts := make([][]call, pick(c, 2, 2, 2, 3))
		for i := range scripts {
			for range 5 {
				num, node := 1+c.IntN(3), 1+c.IntN(2)
				scripts[i] = append(scripts[i], pick(c,
					settling(num, node), settling(num, node), taking(node, settled(num)), taking(node, asking()),
					promoting(node, 3-node), promoting(node, 0), promoting(node, 3),
					call{kind: "settled"}, call{kind: "now"}, call{kind: "all"}))
			}
		}
		s := made(t, 3)
		if c.IntN(2) == 0 {
			s.Settle(1, 1)
		}
		g := againOf(3)
		if s.Settled() {
			g.settled = 1
		}
		lines := together(s, scripts...)
		if !inARow(*g, s, lines) {
			t.Fatalf("P12.6: seed %d: no order of the calls makes %s, and %s in the end", seed, tell(lines), tell(s.All()))
		}
	}
}

// TestOnceEach: P12.6, of goroutines that all promote and settle, each view is made by just one, and there are as many as were made.
func TestOnceEach(t *testing.T) {
	for range 10 {
		s := made(t, 2)
		var promoted, full atomic.Int64
		var all sync.WaitGroup
		for worker := range 4 {
			all.Go(func() {
				for full.Load() == 0 {
					v := s.Now()
					if worker%2 == 0 {
						s.Settle(v.Num, v.Primary)
					} else {
						s.Take(v.Primary, settled(v.Num))
					}
					switch s.Promote(v.Backup, v.Primary) {
					case api.OK:
						promoted.Add(1)
					case api.ErrNumber:
						full.Add(1)
					}
				}
			})
		}
		all.Wait()
		count(t, "P12.6: how many views were made", int(promoted.Load()), 400)
		count(t, "P12.6: how many views there are", len(s.All()), 401)
		lawful(t, s, 401)
	}
}

// TestTold: P12.6, what All, Now and Take tell while others promote is a service as it was at one time, and goes on only.
func TestTold(t *testing.T) {
	for range 10 {
		s := made(t, 3)
		var ended atomic.Bool
		var writers, readers sync.WaitGroup
		for range 2 {
			writers.Go(func() {
				for s.Now().Num < 401 {
					v := s.Now()
					s.Settle(v.Num, v.Primary)
					s.Promote(v.Backup, v.Primary)
				}
			})
		}
		for range 2 {
			readers.Go(func() {
				var told []api.View
				for !ended.Load() {
					all, notes, now := s.All(), s.Take(0, asking()), s.Now()
					if !goesOn(told, all) || len(notes) != 1 || notes[0].View.Num < len(all) || now.Num < notes[0].View.Num {
						t.Errorf("P12.6: behind %s the service tells %s, then %s, then %v", tell(told), tell(all), tell(notes), now)
						return
					}
					told = all
				}
				if !goesOn(told, s.All()) {
					t.Errorf("P12.6: behind %s the service tells %s", tell(told), tell(s.All()))
				}
			})
		}
		writers.Wait()
		ended.Store(true)
		readers.Wait()
		lawful(t, s, 400)
	}
}

// goesOn tells whether some views are a beginning of others.
func goesOn(some, others []api.View) bool {
	return len(some) <= len(others) && slices.Equal(some, others[:len(some)])
}

// lockOf is the mutex of a service.
func lockOf(t *testing.T, s *view.Service) *sync.Mutex {
	t.Helper()
	fields := reflect.ValueOf(s).Elem()
	for i := range fields.NumField() {
		if f := fields.Field(i); f.Type() == reflect.TypeFor[sync.Mutex]() {
			return (*sync.Mutex)(unsafe.Pointer(f.UnsafeAddr()))
		}
	}
	t.Fatal("P12.6: a service has no mutex")
	return nil
}

// TestAllWait: P12.6, each call waits as long as another one goes on, and lets the lock go, whether it is refused or not.
func TestAllWait(t *testing.T) {
	calls := []call{
		promoting(1, 2), promoting(3, 1), promoting(0, 0), settling(1, 1), settling(401, 1), settling(0, 0),
		taking(1, settled(1)), taking(2, settled(2)), taking(1, asking()), taking(1, api.Note{}),
		{kind: "settled"}, {kind: "now"}, {kind: "all"},
	}
	for _, x := range calls {
		for _, number := range []int{1, 401} {
			for _, isSettled := range []bool{false, true} {
				s, _ := long(t, 3, number, isSettled)
				lock := lockOf(t, s)
				lock.Lock()
				begun, ended := make(chan int), make(chan int)
				go func() {
					close(begun)
					x.on(s)
					close(ended)
				}()
				<-begun
				select {
				case <-ended:
					t.Errorf("P12.6: %s did not wait", x.kind)
				case <-time.After(2 * time.Millisecond):
				}
				lock.Unlock()
				<-ended
				if !lock.TryLock() {
					t.Fatalf("P12.6: %s %d %d did not let the lock go", x.kind, x.a, x.b)
				}
				lock.Unlock()
			}
		}
	}
}

// TestNoneTogether: P12.6, a nil and a zero service may be called from several goroutines.
func TestNoneTogether(t *testing.T) {
	script := []call{promoting(1, 2), settling(0, 0), taking(1, asking()), taking(1, settled(0)), {kind: "settled"}, {kind: "now"}, {kind: "all"}}
	for name, s := range empties() {
		for range 50 {
			if lines := together(s, script, script); !inARow(again{}, s, lines) {
				t.Fatalf("P12.6: %s: %s", name, tell(lines))
			}
		}
	}
}
