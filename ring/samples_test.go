package ring_test

import (
	"fmt"
	"math"
	"math/rand/v2"
	"slices"
	"strings"
	"testing"

	"herald/api"
	"herald/ring"
)

const most = api.MaxNumber

// ends are numbers at and around the ends of what a number may be, and of what an int can be.
func ends() []int {
	return []int{math.MinInt, math.MinInt + 1, -most - 1, -1, 0, 1, api.MaxRing, api.MaxRing + 1, most - 1, most, most + 1, math.MaxInt - 1, math.MaxInt}
}

func ent(stamp, view int) api.Entry { return api.Entry{Stamp: stamp, View: view} }

// rich is an entry with something in every field, which no other stamp or view has.
func rich(stamp, view int) api.Entry {
	e := api.Entry{Stamp: stamp, View: view, Kind: stamp + 1, Session: stamp + 2, Request: view + 3}
	for i := range 1 + stamp%3 {
		name := fmt.Sprintf("%d.%d.%d", stamp, view, i)
		e.Ops = append(e.Ops, api.Op{Kind: i - 1, Place: "/place" + name, Data: "data" + name, Version: stamp, Flags: view})
	}
	return e
}

// odd are entries with fields that no entry of a history has: of these nothing is asked.
func odd(stamp, view int) []api.Entry {
	long := strings.Repeat("\xff\x00/", 100000)
	return []api.Entry{
		{Stamp: stamp, View: view, Kind: math.MinInt, Session: math.MaxInt, Request: -1},
		{Stamp: stamp, View: view, Kind: math.MaxInt, Session: math.MinInt, Request: most + 1, Ops: []api.Op{}},
		{Stamp: stamp, View: view, Ops: make([]api.Op, 10000)},
		{Stamp: stamp, View: view, Ops: []api.Op{{Kind: math.MinInt, Place: long, Data: long, Version: math.MaxInt, Flags: -9}, {}}},
	}
}

func same(a, b api.Entry) bool {
	return a.Stamp == b.Stamp && a.View == b.View && a.Kind == b.Kind && a.Session == b.Session && a.Request == b.Request && slices.Equal(a.Ops, b.Ops)
}

func sameAll(a, b []api.Entry) bool { return slices.EqualFunc(a, b, same) }

// tell is a value as a text that is not too long to be read.
func tell(v any) string {
	return fmt.Sprintf("%.500s", fmt.Sprintf("%+v", v))
}

func made(t *testing.T, room, floor, of int) *ring.Ring {
	t.Helper()
	r, code := ring.New(room, floor, of)
	if r == nil || code != api.OK {
		t.Fatalf("P6.1: New(%d, %d, %d) = %v, %d", room, floor, of, r != nil, code)
	}
	return r
}

// filled is a ring in which so many entries have come behind a floor of view 2, of views that rise every third time; those that must not stay are held.
func filled(t *testing.T, room, floor, count int) *ring.Ring {
	t.Helper()
	r := made(t, room, floor, 2)
	for i := range count {
		if i >= room {
			is(t, "P6.3: a Hold ahead", r.Hold(floor+i-room+1), api.OK)
		}
		is(t, "P6.2: an Append", r.Append(rich(floor+i+1, 2+i/3)), api.OK)
	}
	return r
}

// empties are the rings that have no room.
func empties() map[string]*ring.Ring {
	return map[string]*ring.Ring{"a nil ring": nil, "a zero ring": {}}
}

func is(t *testing.T, what string, got, want api.Errno) {
	t.Helper()
	if got != want {
		t.Errorf("%s says %d, want %d", what, got, want)
	}
}

// stands holds what Floor, Last and All tell, entry by entry.
func stands(t *testing.T, r *ring.Ring, floor, of int, want ...api.Entry) {
	t.Helper()
	last, view := floor, of
	if n := len(want); n > 0 {
		last, view = want[n-1].Stamp, want[n-1].View
	}
	if a, b := r.Floor(); a != floor || b != of {
		t.Errorf("P6.5: Floor = %d, %d, want %d, %d", a, b, floor, of)
	}
	if a, b := r.Last(); a != last || b != view {
		t.Errorf("P6.5: Last = %d, %d, want %d, %d", a, b, last, view)
	}
	if got := slices.Collect(r.All()); !sameAll(got, want) {
		t.Errorf("P6.8: All hands on %s, want %s", tell(got), tell(want))
	}
}

// chance makes the same calls in every run.
type chance struct{ *rand.Rand }

func chanceOf(seed, kind uint64) chance { return chance{rand.New(rand.NewPCG(seed, kind))} }

func pick[T any](c chance, from ...T) T { return from[c.IntN(len(from))] }
