package fan_test

import (
	"reflect"
	"runtime"
	"slices"
	"sync"
	"sync/atomic"
	"testing"
	"time"
	"unsafe"

	"herald/api"
	"herald/fan"
	"herald/state"
)

// done is a call that one of several goroutines made: when it began, when it ended, and what it answered.
type done struct {
	call       call
	answer     answer
	begin, end int64
}

// together makes the calls of each script in a goroutine of its own, all at one time.
func together(h *fan.Hub, scripts ...[]call) [][]done {
	var clock, ready atomic.Int64
	var all sync.WaitGroup
	lines := make([][]done, len(scripts))
	for i, script := range scripts {
		all.Go(func() {
			line := make([]done, 0, len(script))
			// All begin as nearly at one time as can be: who waits looks on, but not for ever, if there is one core alone.
			ready.Add(1)
			for waited := 0; ready.Load() < int64(len(scripts)) && waited < 10000; waited++ {
			}
			for _, x := range script {
				d := done{call: x, begin: clock.Add(1)}
				d.answer = x.on(h)
				d.end = clock.Add(1)
				line = append(line, d)
			}
			lines[i] = line
		})
	}
	all.Wait()
	return lines
}

// inARow tells whether what was answered, and what the hub is in the end, is what the calls make one behind the other, in some order in which none comes ahead of one that had ended when it began.
func inARow(g *again, h *fan.Hub, lines [][]done) bool {
	rest := 0
	for i, line := range lines {
		if len(line) == 0 {
			continue
		}
		rest++
		if slices.ContainsFunc(lines, func(other []done) bool { return len(other) > 0 && other[0].end < line[0].begin }) {
			continue
		}
		next := g.copied()
		if !line[0].call.again(next).is(line[0].answer) {
			continue
		}
		others := slices.Clone(lines)
		others[i] = line[1:]
		if inARow(next, h, others) {
			return true
		}
	}
	return rest == 0 && !slices.ContainsFunc(asked(7, 8), func(x call) bool { return !x.on(h).is(x.again(g)) })
}

// shared are calls of two sessions, with machines of any stamp: so those that come too early or too late are refused.
func (c chance) shared(s *story) []call {
	var script []call
	for range 5 {
		stamp := c.IntN(5)
		session, conn := pick(c, 7, 7, 8), pick(c, 1, 1, 2)
		script = append(script, pick(c,
			call{kind: "commit", number: 1 + stamp, changes: s.of(1 + stamp), machine: s.at(1 + stamp)},
			call{kind: "commit", number: 1 + stamp, changes: s.of(1 + stamp), machine: s.at(1 + stamp)},
			call{kind: "commit", number: 1 + stamp, changes: s.of(1 + stamp), machine: s.at(1 + stamp)},
			call{kind: "resume", session: session, conn: conn, number: 0, watches: []api.Watch{all(1, 0), watch(2, "/a", 1, 0)}, machine: s.at(stamp)},
			call{kind: "resume", session: session, conn: conn, number: stamp, watches: []api.Watch{all(1, 0)}, machine: s.at(stamp)},
			call{kind: "watch", session: session, conn: conn, watches: []api.Watch{watch(2, "/a", 1, 0)}, machine: s.at(stamp)},
			call{kind: "watch", session: session, conn: conn, watches: []api.Watch{watch(3, "/b", 1, 0)}, machine: s.at(stamp)},
			call{kind: "unwatch", session: session, conn: conn, number: pick(c, 1, 2)},
			call{kind: "took", session: session, conn: conn, number: 1 + stamp},
			call{kind: "next", session: session, number: 2},
			call{kind: "watches", session: session},
			call{kind: "drop", session: session},
			call{kind: pick(c, "clear", "sessions", "floor", "last")}))
	}
	return script
}

// TestInARow: P11.12, what several goroutines are answered at one time, and what the hub is then, is what some order of the calls makes.
func TestInARow(t *testing.T) {
	s := storyOf(t, 0, asks(7, 1), opens(7), asks(7, 1, makes("/a", ""), makes("/b", "")), asks(7, 2, sets("/a", "1")), asks(7, 3, sets("/a", "2"), sets("/b", "2")))
	for seed := range uint64(3000) {
		c := chanceOf(seed, 16)
		room, keep := pick(c, 1, 2), pick(c, 1, 2, 9)
		ahead := []call{
			{kind: "resume", session: 7, conn: 1, watches: []api.Watch{all(1, 0), watch(2, "/a", 1, 0)}, machine: s.at(0)},
			{kind: "commit", number: 1, machine: s.at(1)},
		}
		h, g := made(t, room, keep, 0), &again{room: room, keep: keep}
		for _, x := range ahead[:c.IntN(3)] {
			x.holds(t, h, g)
		}
		scripts := make([][]call, pick(c, 2, 2, 2, 3))
		for i := range scripts {
			scripts[i] = c.shared(s)
		}
		lines := together(h, scripts...)
		if !inARow(g, h, lines) {
			t.Fatalf("P11.12: seed %d: no order of the calls makes %s", seed, tell(lines))
		}
	}
}

// TestSideBySide: P11.2 and P11.12, an entry is told to all of many sessions when Commit answers, each as if it were alone; full queues, queues with room, and sessions that match nothing at one time.
func TestSideBySide(t *testing.T) {
	const sessions = 400
	s := busy(t, 0, 12)
	x := hallOf(t, 6, 9, s)
	x.commit(2)
	watches := func(session int) []api.Watch {
		return [][]api.Watch{{all(1, 0), watch(4, "/a", 1, 0)}, {watch(2, "/a", 2, 0)}, {watch(3, "/a", 1, 2)}, nil, {all(9, 0)}}[session%5]
	}
	for session := 1; session <= sessions; session++ {
		x.resume(session, session, 2, watches(session)...)
	}
	alone := map[int]hall{}
	for session := 1; session <= 5; session++ {
		alone[session%5] = hallOf(t, 6, 9, s)
		alone[session%5].commit(2)
		alone[session%5].resume(session, session, 2, watches(session)...)
	}
	for stamp := 3; stamp <= s.end(); stamp++ {
		x.commit(stamp)
		for kind, other := range alone {
			other.commit(stamp)
			first := 1 + (kind+4)%5
			if stamp == 7 && kind == 4 {
				is(t, "P11.6: Took", other.Took(first, first, 5), api.OK)
				for session := first; session <= sessions; session += 5 {
					is(t, "P11.6: Took", x.Took(session, session, 5), api.OK)
				}
			}
			want := other.Next(first, 99)
			for session := first; session <= sessions; session += 5 {
				x.tells(session, want...)
			}
		}
		if t.Failed() {
			t.Fatalf("P11.12: behind %d", stamp)
		}
	}
}

// TestWorkersEnd: P11.2, of the goroutines that tell an entry none is left behind.
func TestWorkersEnd(t *testing.T) {
	s := busy(t, 0, 40)
	x := hallOf(t, 2, 9, s)
	for session := 1; session <= 50; session++ {
		x.resume(session, 1, 0, all(1, 0))
	}
	before := runtime.NumGoroutine()
	x.commit(s.end())
	// One that has said that it is done may still be on its way out.
	for range 1000 {
		if runtime.NumGoroutine() <= before {
			return
		}
		time.Sleep(time.Millisecond)
	}
	t.Errorf("P11.2: %d goroutines ahead of the commits, %d behind them", before, runtime.NumGoroutine())
}

// TestOneCommits: P11.12, of goroutines that all commit the same entries just one is told that it did, and each session is told each entry once, while others ask, take, watch and come back.
func TestOneCommits(t *testing.T) {
	s := busy(t, 0, 200)
	x := hallOf(t, api.MaxQueue, 64, s)
	for session := 1; session <= 4; session++ {
		x.resume(session, 1, 0, all(1, 0))
	}
	var commits [203]atomic.Int64
	var ended atomic.Bool
	var writers, others sync.WaitGroup
	for range 3 {
		writers.Go(func() {
			for stamp := 1; stamp <= s.end(); {
				if x.Commit(stamp, s.of(stamp), s.at(stamp)) == api.OK {
					commits[stamp].Add(1)
				}
				if x.Last() >= stamp {
					stamp++
				}
			}
		})
	}
	var taken [5][]api.Item
	for session := 1; session <= 4; session++ {
		others.Go(func() {
			for last := 0; ; {
				was := ended.Load()
				items := x.Next(session, 3)
				for _, item := range items {
					taken[session] = append(taken[session], item)
					last = item.Stamp
				}
				x.Took(session, 1, last)
				x.Resume(session, 1, 0, nil, s.at(s.end()))
				x.Watch(9, 1, all(1, 0), s.at(s.end()))
				x.Sessions()
				x.Watches(session)
				if was && len(items) == 0 {
					return
				}
			}
		})
	}
	writers.Wait()
	ended.Store(true)
	others.Wait()
	for stamp := 1; stamp <= s.end(); stamp++ {
		count(t, "P11.12: how often "+tell(stamp)+" was committed", int(commits[stamp].Load()), 1)
	}
	for session := 1; session <= 4; session++ {
		last := 0
		for _, item := range taken[session] {
			want := x.event(item.Stamp, last, all(1, 0))
			if item.Marker {
				// It may stand for items too that the session was told, but had not said to have taken.
				want = x.marker(item.Stamp, min(item.After, last), all(1, 0))
			}
			if !same(item, want) || !item.Marker && last > 0 && item.Stamp != last+1 {
				t.Fatalf("P11.12: behind %d session %d takes %s, want %s", last, session, tell(item), tell(want))
			}
			last = item.Stamp
		}
		count(t, "P11.12: the last stamp that a session took", last, s.end())
	}
}

// lockOf is the mutex of a hub.
func lockOf(t *testing.T, h *fan.Hub) *sync.Mutex {
	t.Helper()
	fields := reflect.ValueOf(h).Elem()
	for i := range fields.NumField() {
		if f := fields.Field(i); f.Type() == reflect.TypeFor[sync.Mutex]() {
			return (*sync.Mutex)(unsafe.Pointer(f.UnsafeAddr()))
		}
	}
	t.Fatal("P11.12: a hub has no mutex")
	return nil
}

// TestAllWait: P11.12, each call waits as long as another one goes on, and lets the lock go, whether it is refused or not.
func TestAllWait(t *testing.T) {
	s := plain(t, 0)
	calls := []call{
		{kind: "commit", number: 5, changes: s.of(5), machine: s.at(5)}, {kind: "commit", number: 4, machine: s.at(4)},
		{kind: "resume", session: 7, conn: 6, number: 1, watches: []api.Watch{all(1, 0)}, machine: s.at(4)}, {kind: "resume", session: 7, conn: 5, machine: s.at(4)}, {kind: "resume", session: 7, conn: 4, machine: s.at(4)}, {kind: "resume", session: 7, conn: 9, number: 5, machine: s.at(4)}, {kind: "resume", session: 7, conn: 9, machine: s.at(3)},
		{kind: "watch", session: 7, conn: 5, watches: []api.Watch{all(9, 0)}, machine: s.at(4)}, {kind: "watch", session: 7, conn: 4, watches: []api.Watch{all(9, 0)}, machine: s.at(4)}, {kind: "watch", session: 7, conn: 5, watches: []api.Watch{all(0, 0)}, machine: s.at(4)}, {kind: "watch", session: 7, conn: 5, watches: []api.Watch{all(0, 0)}, machine: s.at(3)},
		{kind: "unwatch", session: 7, conn: 5, number: 1}, {kind: "unwatch", session: 7, conn: 5, number: 9}, {kind: "unwatch", session: 6},
		{kind: "took", session: 7, conn: 5, number: 9}, {kind: "took", session: 6},
		{kind: "next", session: 7, number: 1}, {kind: "next", session: 6, number: 1}, {kind: "drop", session: 7}, {kind: "clear"},
		{kind: "floor"}, {kind: "last"}, {kind: "sessions"}, {kind: "watches", session: 7},
	}
	for _, x := range calls {
		h, g := manned(t, s)
		lock := lockOf(t, h)
		lock.Lock()
		begun, ended := make(chan int), make(chan answer)
		go func() {
			close(begun)
			ended <- x.on(h)
		}()
		<-begun
		select {
		case <-ended:
			t.Fatalf("P11.12: %s did not wait", x.kind)
		case <-time.After(2 * time.Millisecond):
		}
		lock.Unlock()
		if a := <-ended; !a.is(x.again(g)) {
			t.Errorf("P11.12: %s that waited answers %s", x.kind, tell(a))
		}
		if !lock.TryLock() {
			t.Fatalf("P11.12: %s did not let the lock go", x.kind)
		}
		lock.Unlock()
		g.isLike(t, h, 7, 8)
	}
}

// TestEmptiesTogether: a nil and a zero hub may be called from several goroutines.
func TestEmptiesTogether(t *testing.T) {
	m := state.New()
	script := []call{{kind: "commit", number: 1, machine: m}, {kind: "resume", session: 7, conn: 1, machine: m}, {kind: "watch", session: 7, conn: 1, watches: []api.Watch{all(1, 0)}, machine: m}, {kind: "unwatch"}, {kind: "took"}, {kind: "next", session: 7, number: 1}, {kind: "drop"}, {kind: "clear"}, {kind: "floor"}, {kind: "last"}, {kind: "sessions"}, {kind: "watches"}}
	for _, h := range empties() {
		for range 30 {
			if lines := together(h, script, script); !inARow(&again{}, h, lines) {
				t.Fatalf("P11.12: %s", tell(lines))
			}
		}
	}
}
