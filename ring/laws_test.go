package ring_test

import (
	"slices"
	"testing"

	"herald/api"
	"herald/ring"
)

// lived is what a ring has shown so far, for what P6.11 says of all that comes.
type lived struct {
	floor, hold int
	settled     map[int]api.Entry // entries that were at the hold or below it
}

// follows holds P6.11 of a ring behind a call.
func (l *lived) follows(t *testing.T, r *ring.Ring, room int, x call, code api.Errno) {
	t.Helper()
	if x.kind == "hold" && code == api.OK {
		if x.stamp < l.hold {
			t.Errorf("P6.11: the hold falls from %d to %d", l.hold, x.stamp)
		}
		l.hold = x.stamp
	}
	floor, view := r.Floor()
	last, _ := r.Last()
	if floor > l.hold || l.hold > last || last > floor+room || floor < l.floor {
		t.Errorf("P6.11: floor %d behind %d, hold %d, last %d, room %d", floor, l.floor, l.hold, last, room)
	}
	l.floor = floor
	for e := range r.All() {
		if e.View < view {
			t.Errorf("P6.11: the view %d stands behind %d", e.View, view)
		}
		view = e.View
		if was, settled := l.settled[e.Stamp]; settled && !same(was, e) {
			t.Errorf("P6.11: %s became %s", tell(was), tell(e))
		}
		if e.Stamp <= l.hold {
			l.settled[e.Stamp] = e
		}
	}
}

// TestLaws: P6.11, along scripts of calls.
func TestLaws(t *testing.T) {
	for seed := range uint64(200) {
		c := chanceOf(seed, 11)
		room, floor := pick(c, 1, 2, 3, 5, 17, 63, 64), pick(c, 0, 5, most-40)
		r, g := made(t, room, floor, 1), startAgain(room, floor, 1)
		l := &lived{floor: floor, hold: floor, settled: map[int]api.Entry{}}
		for range 200 {
			x := c.call(g)
			x.again(g)
			l.follows(t, r, room, x, x.on(r))
		}
		if t.Failed() {
			t.Fatalf("P6.11: seed %d", seed)
		}
	}
}

// TestUnlikeRooms: P6.12, rings of unlike rooms that are given the same calls have one last, and the same entries above the higher floor.
func TestUnlikeRooms(t *testing.T) {
	unlike := 0
	for seed := range uint64(300) {
		c := chanceOf(seed, 12)
		small := pick(c, 1, 2, 3, 8, 63)
		large := pick(c, small+1, min(api.MaxRing, small+1+c.IntN(9)), api.MaxRing)
		floor := pick(c, 0, 63, most-80)
		one, other := made(t, small, floor, 0), made(t, large, floor, 0)
		g := startAgain(small, floor, 0)
		for range 150 {
			x := c.call(g)
			x.again(g)
			// What the smaller one takes the larger one has room for.
			if x.on(one) != api.OK {
				continue
			}
			is(t, "P6.12: the larger ring's "+x.kind, x.on(other), api.OK)
			unlike += shareAbove(t, one, other)
		}
		if t.Failed() {
			t.Fatalf("P6.12: seed %d, rooms %d and %d", seed, small, large)
		}
	}
	if unlike < 5000 {
		t.Errorf("only %d times were the floors unlike", unlike)
	}
}

// shareAbove holds P6.12 of two rings, and counts whether their floors are unlike.
func shareAbove(t *testing.T, one, other *ring.Ring) int {
	t.Helper()
	lastOne, viewOne := one.Last()
	lastOther, viewOther := other.Last()
	floorOne, _ := one.Floor()
	floorOther, _ := other.Floor()
	if lastOne != lastOther || viewOne != viewOther {
		t.Errorf("P6.12: the lasts are %d, %d and %d, %d", lastOne, viewOne, lastOther, viewOther)
	}
	above := func(r *ring.Ring) []api.Entry {
		return slices.DeleteFunc(slices.Collect(r.All()), func(e api.Entry) bool { return e.Stamp <= max(floorOne, floorOther) })
	}
	if !sameAll(above(one), above(other)) {
		t.Errorf("P6.12: %s and %s", tell(above(one)), tell(above(other)))
	}
	if floorOne == floorOther {
		return 0
	}
	return 1
}
