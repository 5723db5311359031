package ring_test

import (
	"iter"
	"slices"
	"testing"

	"herald/api"
)

// TestAllAsFarAsAsked: P6.8 and W1, who stops is handed on nothing more, wherever he stops.
func TestAllAsFarAsAsked(t *testing.T) {
	for _, room := range []int{1, 3, api.MaxRing} {
		r := filled(t, room, 9, room+room/2)
		want := slices.Collect(r.All())
		for stop := range room + 1 {
			var got []api.Entry
			r.All()(func(e api.Entry) bool {
				got = append(got, e)
				return len(got) != stop
			})
			if stop == 0 {
				stop = room
			}
			if !sameAll(got, want[:stop]) {
				t.Errorf("P6.8: stopped at %d of %d: %s", stop, room, tell(got))
			}
		}
	}
}

// TestAllAgain: P6.8, one answer of All can be ranged over again and again, also behind a range that stopped.
func TestAllAgain(t *testing.T) {
	r := filled(t, 3, 0, 4)
	all := r.All()
	for range all {
		break
	}
	for range 3 {
		if got := slices.Collect(all); !sameAll(got, []api.Entry{rich(2, 2), rich(3, 2), rich(4, 3)}) {
			t.Errorf("P6.8: ranged over again: %s", tell(got))
		}
	}
}

// TestAllInside: P6.8, ranges inside of one another, of one answer of All, do not meet.
func TestAllInside(t *testing.T) {
	r := filled(t, 3, 0, 5)
	all := r.All()
	var got []int
	for a := range all {
		for b := range all {
			for c := range all {
				got = append(got, a.Stamp*100+b.Stamp*10+c.Stamp)
			}
			if b.Stamp == 4 {
				break
			}
		}
	}
	want := []int{333, 334, 335, 343, 344, 345, 433, 434, 435, 443, 444, 445, 533, 534, 535, 543, 544, 545}
	if !slices.Equal(got, want) {
		t.Errorf("P6.8: ranges inside of one another: %v", got)
	}
}

// TestAllBeginsLate: P6.8, a range goes through what the ring has when it begins, not when All was called.
func TestAllBeginsLate(t *testing.T) {
	r := made(t, 2, 0, 0)
	all := r.All()
	for _, want := range [][]api.Entry{nil, {rich(1, 1)}, {rich(1, 1), rich(2, 1)}, {rich(2, 1), rich(3, 1)}} {
		if got := slices.Collect(all); !sameAll(got, want) {
			t.Errorf("P6.8: %s, want %s", tell(got), tell(want))
		}
		last, _ := r.Last()
		r.Hold(max(0, last-1))
		r.Append(rich(last+1, 1))
	}
	is(t, "P6.4: Cut", r.Cut(3), api.OK)
	if got := slices.Collect(all); !sameAll(got, []api.Entry{rich(3, 1)}) {
		t.Errorf("P6.8: behind a cut: %s", tell(got))
	}
}

// TestAllWhileTurned: P6.8, whatever is called while a range goes on, it goes through what there was.
func TestAllWhileTurned(t *testing.T) {
	for name, turn := range map[string]func(call func(...call)){
		"appended": func(call func(...call)) { call(appending(9, 5), holding(9)) },
		"cut":      func(call func(...call)) { call(cutting(6)) },
		"other entries behind a cut": func(call func(...call)) {
			call(cutting(6), appending(7, 8), appending(8, 8))
		},
		"gone round": func(call func(...call)) {
			for stamp := 9; stamp < 20; stamp++ {
				call(appending(stamp, 9), holding(stamp))
			}
		},
	} {
		for at := 6; at <= 8; at++ {
			r := filled(t, 3, 3, 5)
			is(t, "P6.3: Hold", r.Hold(6), api.OK)
			var got []api.Entry
			for e := range r.All() {
				if e.Stamp == at {
					turn(func(calls ...call) {
						for _, x := range calls {
							is(t, "P6.8: "+x.kind+" meanwhile", x.on(r), api.OK)
						}
					})
				}
				got = append(got, e)
			}
			if !sameAll(got, []api.Entry{rich(6, 2), rich(7, 3), rich(8, 3)}) {
				t.Errorf("P6.8: %s at %d: %s", name, at, tell(got))
			}
		}
	}
}

func appending(stamp, view int) call { return call{kind: "append", entry: rich(stamp, view)} }
func holding(stamp int) call         { return call{kind: "hold", stamp: stamp} }
func cutting(stamp int) call         { return call{kind: "cut", stamp: stamp} }

// TestAllSideBySide: P6.8, two ranges that take turns go each their own way, each from where it began.
func TestAllSideBySide(t *testing.T) {
	r := filled(t, 2, 0, 2)
	all := r.All()
	one, stopOne := iter.Pull(all)
	defer stopOne()
	first, _ := one()
	is(t, "P6.3: Hold", r.Hold(2), api.OK)
	is(t, "P6.2: Append", r.Append(rich(3, 4)), api.OK)
	two, stopTwo := iter.Pull(all)
	defer stopTwo()
	second, _ := two()
	is(t, "P6.2: Append", r.Append(rich(4, 4)), api.OK)
	third, _ := one()
	fourth, _ := two()
	_, more := one()
	_, moreStill := two()
	if !sameAll([]api.Entry{first, third, second, fourth}, []api.Entry{rich(1, 2), rich(2, 2), rich(2, 2), rich(3, 4)}) || more || moreStill {
		t.Errorf("P6.8: side by side: %s, %s and %s, %s, more: %v, %v", tell(first), tell(third), tell(second), tell(fourth), more, moreStill)
	}
}

// TestAllOfNothing: P6.8 and P6.10, where there is no entry, nothing is handed on.
func TestAllOfNothing(t *testing.T) {
	rings := empties()
	rings["a new ring"] = made(t, api.MaxRing, 7, 1)
	rings["an emptied ring"] = filled(t, 2, 7, 2)
	is(t, "P6.4: Cut", rings["an emptied ring"].Cut(7), api.OK)
	for name, r := range rings {
		for e := range r.All() {
			t.Errorf("P6.8: %s hands on %s", name, tell(e))
		}
	}
}
