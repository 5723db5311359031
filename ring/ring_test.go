package ring_test

import (
	"math"
	"testing"

	"herald/api"
	"herald/ring"
)

// TestExamples: the chapter's examples, in their order.
func TestExamples(t *testing.T) {
	for _, c := range []struct {
		room, floor, of int
		want            api.Errno
	}{{0, 0, 0, api.ErrArg}, {api.MaxRing + 1, -1, 0, api.ErrArg}, {2, -1, 0, api.ErrNumber}, {2, 0, most + 1, api.ErrNumber}} {
		r, code := ring.New(c.room, c.floor, c.of)
		if r != nil || code != c.want {
			t.Errorf("P6.1: New(%d, %d, %d) = %v, %d, want %d", c.room, c.floor, c.of, r != nil, code, c.want)
		}
	}
	r := made(t, 2, 5, 3)
	stands(t, r, 5, 3)
	is(t, "P6.2: a gap", r.Append(ent(7, 2)), api.ErrGap)
	is(t, "P6.2: a lower view", r.Append(ent(6, 2)), api.ErrArg)
	is(t, "P6.2: no view", r.Append(ent(6, -1)), api.ErrNumber)
	is(t, "P6.2: the next", r.Append(ent(6, 3)), api.OK)
	is(t, "P6.2: the next", r.Append(ent(7, 4)), api.OK)
	is(t, "P6.2: 6 is above the hold", r.Append(ent(8, 4)), api.ErrRoom)
	is(t, "P6.3: Hold(6)", r.Hold(6), api.OK)
	is(t, "P6.2: 6 falls out", r.Append(ent(8, 4)), api.OK)
	stands(t, r, 6, 3, ent(7, 4), ent(8, 4))
	holdsAt(t, r, 6, api.ErrOld, api.Entry{})
	holdsAt(t, r, 7, api.OK, ent(7, 4))
	holdsAt(t, r, 9, api.ErrGap, api.Entry{})
	holdsAfter(t, r, 6, 1, api.OK, ent(7, 4))
	holdsAfter(t, r, 5, 1, api.ErrOld)
	holdsAfter(t, r, 8, 9, api.OK)
	holdsAfter(t, r, 9, 1, api.ErrGap)
	holdsAfter(t, r, 9, -1, api.ErrArg)
	is(t, "P6.4: Cut(5)", r.Cut(5), api.ErrHeld)
	is(t, "P6.3: Hold(5)", r.Hold(5), api.ErrHeld)
	is(t, "P6.4: Cut(7)", r.Cut(7), api.OK)
	stands(t, r, 6, 3, ent(7, 4))
	is(t, "P6.2: another 8", r.Append(ent(8, 9)), api.OK)
	stands(t, r, 6, 3, ent(7, 4), ent(8, 9))
}

func holdsAt(t *testing.T, r *ring.Ring, stamp int, want api.Errno, entry api.Entry) {
	t.Helper()
	if e, code := r.At(stamp); code != want || !same(e, entry) {
		t.Errorf("P6.6: At(%d) = %s, %d, want %s, %d", stamp, tell(e), code, tell(entry), want)
	}
}

func holdsAfter(t *testing.T, r *ring.Ring, stamp, count int, want api.Errno, entries ...api.Entry) {
	t.Helper()
	if list, code := r.After(stamp, count); code != want || !sameAll(list, entries) {
		t.Errorf("P6.7: After(%d, %d) = %s, %d, want %s, %d", stamp, count, tell(list), code, tell(entries), want)
	}
}

// TestNew: P6.1, every room and the ends of the numbers; the room is asked for ahead of the numbers.
func TestNew(t *testing.T) {
	rooms := []int{math.MinInt, -1, math.MaxInt, most, 1 << 32}
	for room := range api.MaxRing + 3 {
		rooms = append(rooms, room)
	}
	for _, room := range rooms {
		for _, floor := range ends() {
			for _, of := range ends() {
				want := api.OK
				switch {
				case room <= 0 || room >= 65:
					want = api.ErrArg
				case min(floor, of) <= -1 || max(floor, of) >= 2147483648:
					want = api.ErrNumber
				}
				r, code := ring.New(room, floor, of)
				if code != want || (r == nil) != (want != api.OK) {
					t.Errorf("P6.1: New(%d, %d, %d) = %v, %d, want %d", room, floor, of, r != nil, code, want)
				}
				if want == api.OK {
					stands(t, r, floor, of)
					is(t, "P6.1: Hold at the floor", r.Hold(floor), api.OK)
					is(t, "P6.1: Hold below the floor", r.Hold(floor-1), api.ErrHeld)
					is(t, "P6.1: Hold above the floor", r.Hold(floor+1), api.ErrGap)
				}
			}
		}
	}
}

// TestAppendOrder: P6.2, of several reasons the first one is told.
func TestAppendOrder(t *testing.T) {
	ending := made(t, 1, most, 3)
	is(t, "P6.2: behind MaxNumber, with a gap, no view", ending.Append(ent(0, -1)), api.ErrNumber)
	is(t, "P6.2: behind MaxNumber, with a gap", ending.Append(ent(7, 0)), api.ErrNumber)
	is(t, "P6.2: behind MaxNumber, a lower view", ending.Append(ent(most+1, 2)), api.ErrNumber)
	is(t, "P6.2: behind MaxNumber", ending.Append(ent(most+1, 3)), api.ErrNumber)
	stands(t, ending, most, 3)
	full := filled(t, 2, 5, 2)
	entries := []api.Entry{rich(6, 2), rich(7, 2)}
	for _, c := range []struct {
		stamp, view int
		want        api.Errno
	}{
		{9, -1, api.ErrNumber}, {7, most + 1, api.ErrNumber}, {8, -1, api.ErrNumber}, {8, most + 1, api.ErrNumber},
		{8, math.MinInt, api.ErrNumber}, {8, math.MaxInt, api.ErrNumber},
		{9, 0, api.ErrGap}, {7, 1, api.ErrGap}, {7, 2, api.ErrGap}, {9, 3, api.ErrGap}, {-8, 2, api.ErrGap},
		{8 + 1<<32, 2, api.ErrGap}, {math.MinInt, 2, api.ErrGap}, {math.MaxInt, 2, api.ErrGap},
		{8, 1, api.ErrArg}, {8, 0, api.ErrArg},
		{8, 2, api.ErrRoom}, {8, 3, api.ErrRoom}, {8, most, api.ErrRoom},
	} {
		is(t, "P6.2: Append to a full ring of "+tell(c), full.Append(ent(c.stamp, c.view)), c.want)
		stands(t, full, 5, 2, entries...)
	}
}

// TestAppendViews: P6.2, a view may stay or rise, to MaxNumber, but not fall: held against the last, or against the floor.
func TestAppendViews(t *testing.T) {
	r := made(t, 3, 0, 4)
	is(t, "P6.2: below the floor's view", r.Append(ent(1, 3)), api.ErrArg)
	is(t, "P6.2: the floor's view", r.Append(ent(1, 4)), api.OK)
	is(t, "P6.2: MaxNumber", r.Append(ent(2, most)), api.OK)
	is(t, "P6.2: below MaxNumber", r.Append(ent(3, most-1)), api.ErrArg)
	is(t, "P6.2: MaxNumber again", r.Append(ent(3, most)), api.OK)
	is(t, "P6.4: Cut(1)", r.Cut(1), api.OK)
	is(t, "P6.2: below what is the last again", r.Append(ent(2, 3)), api.ErrArg)
	is(t, "P6.2: between it and what was cut", r.Append(ent(2, 5)), api.OK)
	is(t, "P6.4: Cut(0)", r.Cut(0), api.OK)
	is(t, "P6.2: below the floor's view", r.Append(ent(1, 3)), api.ErrArg)
	is(t, "P6.2: the floor's view", r.Append(ent(1, 4)), api.OK)
	stands(t, r, 0, 4, ent(1, 4))
}

// TestRooms: P6.2, every room: as many entries as it has, none more while the first is above the hold, and each one that falls out is the floor.
func TestRooms(t *testing.T) {
	for room := 1; room <= api.MaxRing; room++ {
		for _, floor := range []int{0, 1, 63, 64, 1000, most - 3*room} {
			r := filled(t, room, floor, room)
			next := floor + room + 1
			is(t, "P6.2: one more", r.Append(ent(next, most)), api.ErrRoom)
			for fallen := 1; fallen <= 2*room; fallen++ {
				first := floor + fallen
				view := 2 + (fallen-1)/3
				is(t, "P6.3: Hold", r.Hold(first), api.OK)
				is(t, "P6.2: Append", r.Append(rich(next, 2+(room+fallen-1)/3)), api.OK)
				if a, b := r.Floor(); a != first || b != view {
					t.Fatalf("P6.2: room %d: the floor is %d, %d, want %d, %d", room, a, b, first, view)
				}
				next++
				is(t, "P6.2: one more", r.Append(ent(next, most)), map[bool]api.Errno{false: api.ErrRoom, true: api.ErrNumber}[next > most])
			}
			var want []api.Entry
			for i := range room {
				want = append(want, rich(floor+2*room+i+1, 2+(2*room+i)/3))
			}
			stands(t, r, floor+2*room, 2+(2*room-1)/3, want...)
		}
	}
}

// TestOddEntries: P6.2, of an entry's other fields nothing is asked.
func TestOddEntries(t *testing.T) {
	for _, e := range odd(8, 3) {
		r := filled(t, 2, 5, 2)
		is(t, "P6.3: Hold", r.Hold(6), api.OK)
		is(t, "P6.2: an odd entry", r.Append(e), api.OK)
		holdsAt(t, r, 8, api.OK, e)
		holdsAfter(t, r, 7, 1, api.OK, e)
		stands(t, r, 6, 2, rich(7, 2), e)
	}
}

// TestHold: P6.3, from the hold to the last; it never falls.
func TestHold(t *testing.T) {
	r := filled(t, 4, 10, 3)
	for _, c := range []struct {
		stamp int
		want  api.Errno
	}{
		{9, api.ErrHeld}, {14, api.ErrGap}, {10, api.OK}, {10, api.OK}, {11, api.OK}, {10, api.ErrHeld}, {11, api.OK}, {15, api.ErrGap},
		{13, api.OK}, {12, api.ErrHeld}, {11, api.ErrHeld}, {13, api.OK}, {14, api.ErrGap},
		{math.MinInt, api.ErrHeld}, {math.MaxInt, api.ErrGap}, {13 + 1<<32, api.ErrGap}, {13 - 1<<32, api.ErrHeld}, {0, api.ErrHeld}, {-1, api.ErrHeld},
	} {
		is(t, "P6.3: Hold of "+tell(c.stamp), r.Hold(c.stamp), c.want)
		stands(t, r, 10, 2, rich(11, 2), rich(12, 2), rich(13, 2))
	}
	is(t, "P6.4: Cut below the hold", r.Cut(12), api.ErrHeld)
	is(t, "P6.4: Cut at the hold", r.Cut(13), api.OK)
}

// TestCut: P6.4, from the hold to the last, in rings that have gone round by any number.
func TestCut(t *testing.T) {
	for _, room := range []int{1, 2, 3, 5} {
		for count := range 2*room + 1 {
			for hold := max(0, count-room); hold <= count; hold++ {
				for stamp := hold - 2; stamp <= count+2; stamp++ {
					holdsCut(t, room, count, hold, stamp)
				}
			}
		}
	}
	for _, room := range []int{api.MaxRing - 1, api.MaxRing} {
		for _, count := range []int{1, room - 1, room, room + 1, room + room/2, 2*room - 1, 2 * room} {
			for stamp := max(0, count-room) - 1; stamp <= count+1; stamp++ {
				holdsCut(t, room, count, max(0, count-room), stamp)
				holdsCut(t, room, count, count-1, stamp)
			}
		}
	}
}

// holdsCut holds what a cut leaves of a ring in which so many entries have come.
func holdsCut(t *testing.T, room, count, hold, stamp int) {
	t.Helper()
	r := filled(t, room, 0, count)
	is(t, "P6.3: Hold", r.Hold(hold), api.OK)
	want, left := api.OK, stamp
	switch {
	case stamp < hold:
		want, left = api.ErrHeld, count
	case stamp > count:
		want, left = api.ErrGap, count
	}
	is(t, "P6.4: Cut", r.Cut(stamp), want)
	var entries []api.Entry
	floor := max(0, count-room)
	for i := floor; i < left; i++ {
		entries = append(entries, rich(i+1, 2+i/3))
	}
	stands(t, r, floor, 2+max(0, floor-1)/3, entries...)
	holdsAt(t, r, left+1, api.ErrGap, api.Entry{})
	is(t, "P6.4: the hold stays", r.Hold(hold-1), api.ErrHeld)
	is(t, "P6.4: the hold stays", r.Hold(hold), api.OK)
	if t.Failed() {
		t.Fatalf("P6.4: room %d, %d entries, hold %d: Cut(%d)", room, count, hold, stamp)
	}
}

// TestCutEnds: P6.4, stamps that no entry can have.
func TestCutEnds(t *testing.T) {
	r := filled(t, 2, 5, 3)
	for stamp, want := range map[int]api.Errno{math.MinInt: api.ErrHeld, -1: api.ErrHeld, 0: api.ErrHeld, 5: api.ErrHeld, 9: api.ErrGap, 7 + 1<<32: api.ErrGap, 7 - 1<<32: api.ErrHeld, math.MaxInt: api.ErrGap} {
		is(t, "P6.4: Cut of "+tell(stamp), r.Cut(stamp), want)
		stands(t, r, 6, 2, rich(7, 2), rich(8, 2))
	}
}

// TestAnotherBehindACut: P6.4, what is appended behind a cut takes the place of what was there, and a ring that was full has room again.
func TestAnotherBehindACut(t *testing.T) {
	r := filled(t, 3, 0, 5)
	is(t, "P6.3: Hold", r.Hold(3), api.OK)
	is(t, "P6.2: 3 falls out", r.Append(ent(6, 9)), api.OK)
	is(t, "P6.2: a full ring", r.Append(ent(7, 9)), api.ErrRoom)
	stands(t, r, 3, 2, rich(4, 3), rich(5, 3), ent(6, 9))
	is(t, "P6.4: Cut", r.Cut(4), api.OK)
	is(t, "P6.2: another 5", r.Append(rich(5, 7)), api.OK)
	is(t, "P6.2: another 6", r.Append(rich(6, 8)), api.OK)
	is(t, "P6.2: a full ring", r.Append(ent(7, 9)), api.ErrRoom)
	stands(t, r, 3, 2, rich(4, 3), rich(5, 7), rich(6, 8))
}

// TestLastStamps: P6.2 and W7, MaxNumber is the last stamp that there is.
func TestLastStamps(t *testing.T) {
	r := filled(t, 2, most-4, 4)
	stands(t, r, most-2, 2, rich(most-1, 2), rich(most, 3))
	is(t, "P6.3: Hold", r.Hold(most), api.OK)
	for _, stamp := range ends() {
		is(t, "P6.2: behind MaxNumber", r.Append(ent(stamp, 3)), api.ErrNumber)
	}
	holdsAt(t, r, most, api.OK, rich(most, 3))
	holdsAt(t, r, most+1, api.ErrGap, api.Entry{})
	holdsAfter(t, r, most-1, 64, api.OK, rich(most, 3))
	holdsAfter(t, r, most, 64, api.OK)
	holdsAfter(t, r, most+1, 64, api.ErrGap)
	is(t, "P6.4: Cut at MaxNumber", r.Cut(most), api.OK)
	is(t, "P6.4: Cut above MaxNumber", r.Cut(most+1), api.ErrGap)
	is(t, "P6.3: Hold above MaxNumber", r.Hold(most+1), api.ErrGap)
	stands(t, r, most-2, 2, rich(most-1, 2), rich(most, 3))
}

// TestAtAndAfter: P6.6 and P6.7, every stamp and number around a ring's ends, in rings that have gone round by any number.
func TestAtAndAfter(t *testing.T) {
	for _, room := range []int{1, 2, 3, 7, api.MaxRing - 1, api.MaxRing} {
		for count := range 2*room + 2 {
			r := filled(t, room, 20, count)
			g := startAgain(room, 20, 2)
			for i := range count {
				g.holds(20 + max(0, i-room+1))
				g.appends(rich(21+i, 2+i/3))
			}
			g.isLike(t, r)
		}
	}
}

// TestAfterOrder: P6.7, the number is looked at ahead of the stamp.
func TestAfterOrder(t *testing.T) {
	r := filled(t, 2, 5, 3)
	for _, stamp := range ends() {
		for _, count := range []int{math.MinInt, -1, api.MaxRing + 1, most, 1 << 32, math.MaxInt} {
			holdsAfter(t, r, stamp, count, api.ErrArg)
		}
		want := api.ErrOld
		if stamp > 8 {
			want = api.ErrGap
		}
		holdsAfter(t, r, stamp, 0, want)
		holdsAfter(t, r, stamp, api.MaxRing, want)
		holdsAt(t, r, stamp, want, api.Entry{})
	}
	holdsAfter(t, r, 6, 0, api.OK)
	holdsAfter(t, r, 6, api.MaxRing, api.OK, rich(7, 2), rich(8, 2))
}

// TestNoRoom: P6.10, a nil and a zero ring.
func TestNoRoom(t *testing.T) {
	for name, r := range empties() {
		for range 2 {
			is(t, "P6.10: Append to "+name, r.Append(ent(1, 0)), api.ErrRoom)
			is(t, "P6.10: Append of a great view to "+name, r.Append(rich(1, most)), api.ErrRoom)
			is(t, "P6.10: Append of a gap to "+name, r.Append(ent(2, 0)), api.ErrGap)
			is(t, "P6.10: Append of 0 to "+name, r.Append(ent(0, 0)), api.ErrGap)
			is(t, "P6.10: Append of no view to "+name, r.Append(ent(1, -1)), api.ErrNumber)
			is(t, "P6.10: Append of no view and a gap to "+name, r.Append(ent(5, most+1)), api.ErrNumber)
			is(t, "P6.10: Hold(0) of "+name, r.Hold(0), api.OK)
			is(t, "P6.10: Cut(0) of "+name, r.Cut(0), api.OK)
			stands(t, r, 0, 0)
		}
		for _, n := range ends() {
			want, at, after := api.ErrGap, api.ErrGap, api.ErrGap
			switch {
			case n < 0:
				want, at, after = api.ErrHeld, api.ErrOld, api.ErrOld
			case n == 0:
				want, at, after = api.OK, api.ErrOld, api.OK
			}
			is(t, "P6.10: Hold of "+name, r.Hold(n), want)
			is(t, "P6.10: Cut of "+name, r.Cut(n), want)
			holdsAt(t, r, n, at, api.Entry{})
			holdsAfter(t, r, n, 0, after)
			holdsAfter(t, r, n, api.MaxRing, after)
			holdsAfter(t, r, n, -1, api.ErrArg)
			holdsAfter(t, r, n, api.MaxRing+1, api.ErrArg)
			stands(t, r, 0, 0)
		}
	}
}
