package ring_test

import (
	"slices"
	"testing"

	"herald/api"
	"herald/ring"
)

// again is a ring by other means: one list of all that came behind the floor that it began with, of which the first have fallen out.
type again struct {
	room   int
	log    []api.Entry // the first one is the floor that it began with
	fallen int         // the number of the one that is the floor
	hold   int
}

func startAgain(room, floor, of int) *again {
	return &again{room: room, log: []api.Entry{ent(floor, of)}, hold: floor}
}

func (g *again) floor() api.Entry     { return g.log[g.fallen] }
func (g *again) last() api.Entry      { return g.log[len(g.log)-1] }
func (g *again) entries() []api.Entry { return g.log[g.fallen+1:] }

// reason is an error with whether it applies.
type reason struct {
	applies bool
	code    api.Errno
}

func first(reasons ...reason) api.Errno {
	for _, r := range reasons {
		if r.applies {
			return r.code
		}
	}
	return api.OK
}

func noNumber(n int) bool { return n < 0 || n > 2147483647 }

func (g *again) appends(e api.Entry) api.Errno {
	full := len(g.entries()) >= g.room
	code := first(
		reason{g.last().Stamp == 2147483647, api.ErrNumber},
		reason{noNumber(e.View), api.ErrNumber},
		reason{e.Stamp != g.last().Stamp+1, api.ErrGap},
		reason{e.View < g.last().View, api.ErrArg},
		reason{g.room == 0, api.ErrRoom},
		reason{full && slices.ContainsFunc(g.entries()[:min(1, len(g.entries()))], func(e api.Entry) bool { return e.Stamp > g.hold }), api.ErrRoom})
	if code != api.OK {
		return code
	}
	if full {
		g.fallen++
	}
	g.log = append(g.log, e)
	return api.OK
}

func (g *again) free(stamp int) api.Errno {
	return first(reason{stamp < g.hold, api.ErrHeld}, reason{stamp > g.last().Stamp, api.ErrGap})
}

func (g *again) holds(stamp int) api.Errno {
	code := g.free(stamp)
	if code == api.OK {
		g.hold = stamp
	}
	return code
}

func (g *again) cuts(stamp int) api.Errno {
	code := g.free(stamp)
	if code == api.OK {
		g.log = slices.DeleteFunc(slices.Clone(g.log), func(e api.Entry) bool { return e.Stamp > stamp })
	}
	return code
}

func (g *again) at(stamp int) (api.Entry, api.Errno) {
	for _, e := range g.entries() {
		if e.Stamp == stamp {
			return e, api.OK
		}
	}
	return api.Entry{}, first(reason{stamp <= g.floor().Stamp, api.ErrOld}, reason{true, api.ErrGap})
}

func (g *again) after(stamp, count int) ([]api.Entry, api.Errno) {
	code := first(reason{count < 0 || count > 64, api.ErrArg}, reason{stamp < g.floor().Stamp, api.ErrOld}, reason{stamp > g.last().Stamp, api.ErrGap})
	var list []api.Entry
	for _, e := range g.entries() {
		if code == api.OK && e.Stamp > stamp && len(list) < count {
			list = append(list, e)
		}
	}
	return list, code
}

// stamps are the ends of what the ring has, what is next to them, and some between.
func (g *again) stamps() []int {
	floor, last := g.floor().Stamp, g.last().Stamp
	all := []int{floor - 2, floor - 1, floor, floor + 1, floor + 2, g.hold - 1, g.hold, g.hold + 1, last - 1, last, last + 1, last + 2}
	for stamp := floor; stamp <= last; stamp += 7 {
		all = append(all, stamp)
	}
	// Where the array is gone round.
	if g.room > 0 {
		round := last - last%g.room
		all = append(all, round-1, round, round+1)
	}
	slices.Sort(all)
	return slices.Compact(all)
}

// isLike holds all that a ring tells, and where its hold is.
func (g *again) isLike(t *testing.T, r *ring.Ring) {
	t.Helper()
	stands(t, r, g.floor().Stamp, g.floor().View, g.entries()...)
	for _, stamp := range g.stamps() {
		e, code := g.at(stamp)
		holdsAt(t, r, stamp, code, e)
		for _, count := range []int{-1, 0, 1, 2, g.room - 1, g.room, g.room + 1, 63, 64, 65} {
			list, code := g.after(stamp, count)
			holdsAfter(t, r, stamp, count, code, list...)
		}
	}
	is(t, "P6.3: Hold below the hold", r.Hold(g.hold-1), api.ErrHeld)
	is(t, "P6.3: Hold at the hold", r.Hold(g.hold), api.OK)
	is(t, "P6.4: Cut below the hold", r.Cut(g.hold-1), api.ErrHeld)
	is(t, "P6.4: Cut above the last", r.Cut(g.last().Stamp+1), api.ErrGap)
	if t.Failed() {
		t.Fatalf("P6.2 to P6.8: a ring of %d entries is not what the script makes: floor %s, last %s, hold %d", g.room, tell(g.floor()), tell(g.last()), g.hold)
	}
}

// call is one call of Append, Hold or Cut.
type call struct {
	kind  string
	entry api.Entry
	stamp int
}

func (c call) on(r *ring.Ring) api.Errno {
	switch c.kind {
	case "append":
		return r.Append(c.entry)
	case "hold":
		return r.Hold(c.stamp)
	}
	return r.Cut(c.stamp)
}

func (c call) again(g *again) api.Errno {
	switch c.kind {
	case "append":
		return g.appends(c.entry)
	case "hold":
		return g.holds(c.stamp)
	}
	return g.cuts(c.stamp)
}

// call is one that is often taken, near an edge, and at times far from what may be.
func (c chance) call(g *again) call {
	last, floor := g.last(), g.floor()
	switch c.IntN(10) {
	default:
		e := rich(last.Stamp+1, last.View)
		e.View = last.View + pick(c, 0, 0, 0, 1)
		switch c.IntN(12) {
		case 0:
			e.Stamp = pick(c, last.Stamp, last.Stamp+2, floor.Stamp, pick(c, ends()...))
		case 1:
			e.View = pick(c, last.View-1, floor.View, floor.View-1, pick(c, ends()...))
		case 2:
			e.Kind, e.Session, e.Request = pick(c, ends()...), pick(c, ends()...), pick(c, ends()...)
			e.Ops = pick(c, nil, []api.Op{}, make([]api.Op, 9))
		}
		return call{kind: "append", entry: e}
	case 0, 1, 2:
		stamp := g.hold + c.IntN(1+max(0, last.Stamp-g.hold))
		return call{kind: "hold", stamp: pick(c, stamp, stamp, stamp, g.hold+1, last.Stamp, last.Stamp+1, g.hold-1, floor.Stamp, pick(c, ends()...))}
	case 3:
		stamp := g.hold + c.IntN(1+max(0, last.Stamp-g.hold))
		return call{kind: "cut", stamp: pick(c, stamp, last.Stamp-1, last.Stamp-1, last.Stamp, last.Stamp+1, g.hold, g.hold-1, floor.Stamp, pick(c, ends()...))}
	}
}

// TestScripts: P6.1 to P6.9, along scripts of calls, of every room, from floors at both ends of the numbers.
func TestScripts(t *testing.T) {
	codes := map[string]int{}
	for seed := range uint64(256) {
		c := chanceOf(seed, 6)
		room, floor, of := 1+int(seed)%api.MaxRing, pick(c, 0, 1, 77, most-30, most-100), pick(c, 0, 3, most-2)
		if seed%3 == 0 {
			room = 1 + int(seed)%4
		}
		r, g := made(t, room, floor, of), startAgain(room, floor, of)
		for i := range 150 {
			x := c.call(g)
			got, want := x.on(r), x.again(g)
			if got != want {
				t.Fatalf("P6.2 to P6.4: seed %d: %s %s, %d = %d, want %d", seed, x.kind, tell(x.entry), x.stamp, got, want)
			}
			codes[x.kind+" "+tell(int(want))]++
			stands(t, r, g.floor().Stamp, g.floor().View, g.entries()...)
			if i%4 == 0 || t.Failed() {
				g.isLike(t, r)
			}
		}
	}
	for _, kind := range []string{"append 0", "append 1", "append 3", "append 61", "append 62", "hold 0", "hold 61", "hold 63", "cut 0", "cut 61", "cut 63"} {
		if codes[kind] < 100 {
			t.Errorf("the scripts have %q only %d times", kind, codes[kind])
		}
	}
}

// letter is one of seven calls of small scripts, by what the ring is then.
func letter(g *again, number int) call {
	last := g.last()
	switch number {
	case 0, 1, 2:
		return call{kind: "append", entry: api.Entry{Stamp: last.Stamp + 1, View: last.View + number - 1, Request: len(g.log)}}
	case 3:
		return call{kind: "hold", stamp: g.hold + 1}
	case 4:
		return call{kind: "hold", stamp: last.Stamp}
	case 5:
		return call{kind: "cut", stamp: last.Stamp - 1}
	}
	return call{kind: "cut", stamp: g.hold}
}

// TestAllSmallScripts: P6.2 to P6.10, all scripts of up to six calls out of seven, in rings of no, one, two and three entries.
func TestAllSmallScripts(t *testing.T) {
	for _, begin := range []func() (*ring.Ring, *again){
		func() (*ring.Ring, *again) { return nil, startAgain(0, 0, 0) },
		func() (*ring.Ring, *again) { return &ring.Ring{}, startAgain(0, 0, 0) },
		func() (*ring.Ring, *again) { return made(t, 1, most-3, 0), startAgain(1, most-3, 0) },
		func() (*ring.Ring, *again) { return made(t, 2, 5, 1), startAgain(2, 5, 1) },
		func() (*ring.Ring, *again) { return made(t, 3, 0, 0), startAgain(3, 0, 0) },
	} {
		size := 6
		if _, g := begin(); g.room == 0 {
			size = 3
		}
		scripts := 1
		for length := 1; length <= size; length++ {
			scripts *= 7
			for number := range scripts {
				r, g := begin()
				for range length {
					x := letter(g, number%7)
					number /= 7
					if got, want := x.on(r), x.again(g); got != want {
						t.Fatalf("P6.2 to P6.4: %s %s, %d = %d, want %d", x.kind, tell(x.entry), x.stamp, got, want)
					}
				}
				// The longest scripts are many: what all others hold is enough of a look at At and After.
				if length < size {
					g.isLike(t, r)
				} else {
					stands(t, r, g.floor().Stamp, g.floor().View, g.entries()...)
				}
			}
		}
	}
}
