package queue_test

import (
	"math"
	"testing"

	"herald/api"
	"herald/queue"
)

// TestNew: P10.1, at all rooms and beginnings at and around the edges, refusals in their order.
func TestNew(t *testing.T) {
	for _, room := range ends() {
		for _, begin := range ends() {
			want := api.OK
			if begin < 0 || begin > 2147483647 {
				want = api.ErrNumber
			}
			if room < 1 || room > 32 {
				want = api.ErrArg
			}
			q, code := queue.New(room, begin)
			if code != want || (q == nil) != (want != api.OK) {
				t.Errorf("P10.1: New(%d, %d) = %v, %d, want %d", room, begin, q != nil, code, want)
			}
			if q != nil {
				stands(t, q, begin)
			}
		}
	}
	for room := 1; room <= 32; room++ {
		stands(t, made(t, room, room), room)
	}
}

// TestExamples: the chapter's examples, line by line.
func TestExamples(t *testing.T) {
	for _, refused := range []struct {
		room, begin int
		want        api.Errno
	}{{0, 0, api.ErrArg}, {33, 0, api.ErrArg}, {1, -1, api.ErrNumber}} {
		_, code := queue.New(refused.room, refused.begin)
		is(t, "P10.1: New", code, refused.want)
	}
	q := made(t, 2, 5)
	c, d, p := tagged(4), tagged(5), parts(6)
	at := func(item api.Item, changes []api.Tagged, parts []api.Part) api.Item {
		item.Changes, item.Parts = changes, parts
		return item
	}
	is(t, "P10.2: Put(5)", q.Put(5, c), api.ErrQueue)
	is(t, "P10.2: Put of no change", q.Put(7, nil), api.ErrQueue)
	is(t, "P10.2: Put of a change without a tag", q.Put(7, []api.Tagged{{Change: c[0].Change}}), api.ErrQueue)
	is(t, "P10.2: Put(7)", q.Put(7, c), api.OK)
	is(t, "P10.2: Put(9)", q.Put(9, d), api.OK)
	is(t, "P10.2: Put(12)", q.Put(12, c), api.ErrFull)
	tells(t, q, 9, at(event(7, 5), c, nil), at(event(9, 7), d, nil))
	is(t, "P10.3: Collapse(9)", q.Collapse(9, p), api.ErrQueue)
	is(t, "P10.3: Collapse to no parts", q.Collapse(12, nil), api.ErrQueue)
	count(t, "P10.5: Took(7)", q.Took(7), 1)
	count(t, "P10.6: Len", q.Len(), 1)
	count(t, "P10.6: Last", q.Last(), 9)
	is(t, "P10.3: Collapse(12)", q.Collapse(12, p), api.OK)
	tells(t, q, 9, at(marker(12, 7), nil, p))
	is(t, "P10.2: Put(13)", q.Put(13, c), api.OK)
	tells(t, q, 1, at(marker(12, 7), nil, p))
	tells(t, q, 0)
	count(t, "P10.5: Took(13)", q.Took(13), 2)
	count(t, "P10.6: Last", q.Last(), 13)
	is(t, "P10.3: Collapse(20)", q.Collapse(20, p), api.OK)
	tells(t, q, 1, at(marker(20, 13), nil, p))
}

// TestPutStamps: P10.2, any stamp above the last may follow, none else; in an empty queue and behind an item.
func TestPutStamps(t *testing.T) {
	for _, begin := range []int{0, 1, 77, most - 1, most} {
		for _, stamp := range append(ends(), begin-1, begin, begin+1, begin+2) {
			q := made(t, 3, begin)
			want := follow(stamp, begin)
			is(t, "P10.2: Put("+tell(stamp)+") behind "+tell(begin), q.Put(stamp, tagged(1)), want)
			if want != api.OK {
				stands(t, q, begin)
				continue
			}
			first := api.Item{Stamp: stamp, After: begin, Changes: tagged(1)}
			stands(t, q, stamp, first)
			for _, next := range append(ends(), begin, stamp-1, stamp, stamp+1) {
				other := made(t, 3, begin)
				other.Put(stamp, tagged(1))
				want := follow(next, stamp)
				is(t, "P10.2: Put("+tell(next)+") behind an item "+tell(stamp), other.Put(next, tagged(2)), want)
				if want == api.OK {
					stands(t, other, next, first, api.Item{Stamp: next, After: stamp, Changes: tagged(2)})
				} else {
					stands(t, other, stamp, first)
				}
			}
		}
	}
}

// follow is what P10.2 and P10.3 say of a stamp behind a last one.
func follow(stamp, last int) api.Errno {
	if stamp > 2147483647 {
		return api.ErrNumber
	}
	if stamp <= last {
		return api.ErrQueue
	}
	return api.OK
}

// TestCollapseStamps: P10.3, any stamp above the last may follow, none else; in an empty queue, a full one, and one that is not.
func TestCollapseStamps(t *testing.T) {
	for _, events := range []int{0, 1, 2, 3} {
		for _, stamp := range append(ends(), events-1, events, events+1, events+2) {
			q := made(t, 3, 0)
			var items []api.Item
			for i := range events {
				is(t, "P10.2: Put", q.Put(i+1, tagged(i+1)), api.OK)
				items = append(items, event(i+1, i))
			}
			want := follow(stamp, events)
			is(t, "P10.3: Collapse("+tell(stamp)+") behind "+tell(events), q.Collapse(stamp, parts(7)), want)
			if want == api.OK {
				stands(t, q, stamp, api.Item{Stamp: stamp, After: 0, Marker: true, Parts: parts(7)})
			} else {
				stands(t, q, events, items...)
			}
		}
	}
}

// TestWithoutTags: P10.2, no change, or one without a tag wherever it stands, is no event; nothing changes, in a queue with room and in a full one.
func TestWithoutTags(t *testing.T) {
	for _, changes := range untagged() {
		q := made(t, 1, 0)
		is(t, "P10.2: Put of "+tell(changes), q.Put(1, changes), api.ErrQueue)
		stands(t, q, 0)
		is(t, "P10.2: Put", q.Put(1, tagged(1)), api.OK)
		is(t, "P10.2: Put of "+tell(changes), q.Put(2, changes), api.ErrQueue)
		stands(t, q, 1, event(1, 0))
	}
}

// TestOddItems: P10.2 and P10.3, of changes, tags and parts nothing else is asked.
func TestOddItems(t *testing.T) {
	for _, changes := range oddChanges() {
		q := made(t, 1, 0)
		is(t, "P10.2: Put of "+tell(changes), q.Put(1, changes), api.OK)
		stands(t, q, 1, api.Item{Stamp: 1, Changes: changes})
	}
	for _, parts := range oddParts() {
		q := made(t, 1, 0)
		is(t, "P10.3: Collapse to "+tell(parts), q.Collapse(1, parts), api.OK)
		stands(t, q, 1, api.Item{Stamp: 1, Marker: true, Parts: parts})
	}
}

// TestOrderOfErrors: P10.2, P10.3 and P10.8, the first reason in the chapter's order is the one that is told, and nothing changes.
func TestOrderOfErrors(t *testing.T) {
	full := func() *queue.Queue { return filled(t, 2, 0, 2) }
	for _, stamp := range []int{most + 1, math.MaxInt} {
		for _, changes := range append(untagged(), tagged(1)) {
			q := full()
			is(t, "P10.2: Put above MaxNumber", q.Put(stamp, changes), api.ErrNumber)
			stands(t, q, 2, event(1, 0), event(2, 1))
		}
		for _, list := range [][]api.Part{nil, {}, parts(1)} {
			q := full()
			is(t, "P10.3: Collapse above MaxNumber", q.Collapse(stamp, list), api.ErrNumber)
			stands(t, q, 2, event(1, 0), event(2, 1))
		}
	}
	q := full()
	is(t, "P10.2: Put of an old stamp into a full queue", q.Put(2, tagged(2)), api.ErrQueue)
	is(t, "P10.2: Put of no change into a full queue", q.Put(3, nil), api.ErrQueue)
	is(t, "P10.2: Put of a change without a tag into a full queue", q.Put(3, make([]api.Tagged, 1)), api.ErrQueue)
	is(t, "P10.2: Put into a full queue", q.Put(3, tagged(3)), api.ErrFull)
	is(t, "P10.2: Put of MaxNumber into a full queue", q.Put(most, tagged(3)), api.ErrFull)
	stands(t, q, 2, event(1, 0), event(2, 1))
}

// TestRoom: P10.2 and P10.10, there is room for so many items and not for one more, in every room, wherever in it the first one stands.
func TestRoom(t *testing.T) {
	for room := 1; room <= api.MaxQueue; room++ {
		for _, ahead := range []int{0, 1, room - 1, room, room + 1} {
			q := filled(t, room, ahead, room)
			var want []api.Item
			for stamp := ahead + 1; stamp <= ahead+room; stamp++ {
				want = append(want, event(stamp, stamp-1))
			}
			next := ahead + room + 1
			is(t, "P10.2: one item more", q.Put(next, tagged(next)), api.ErrFull)
			stands(t, q, ahead+room, want...)
			count(t, "P10.5: Took", q.Took(ahead+1), 1)
			is(t, "P10.2: Put where one was taken", q.Put(next, tagged(next)), api.OK)
			stands(t, q, next, append(want[1:], event(next, next-1))...)
			is(t, "P10.2: one item more", q.Put(next+1, tagged(next+1)), api.ErrFull)
		}
	}
}

// TestCollapse: P10.3, a marker takes the place of all items, of whatever number and wherever they stand; its After is the first one's.
func TestCollapse(t *testing.T) {
	for _, room := range []int{1, 2, 3, 5, 31, 32} {
		for _, ahead := range []int{0, 1, room, room + 2} {
			for events := range room + 1 {
				q := filled(t, room, ahead, events)
				last := ahead + events
				is(t, "P10.3: Collapse", q.Collapse(last+3, parts(last+3)), api.OK)
				stands(t, q, last+3, marker(last+3, ahead))
				// A marker goes into the next one, which begins where it did.
				is(t, "P10.3: Collapse of a marker", q.Collapse(last+4, parts(last+4)), api.OK)
				stands(t, q, last+4, marker(last+4, ahead))
				if room > 1 {
					is(t, "P10.2: Put behind a marker", q.Put(last+9, tagged(last+9)), api.OK)
					stands(t, q, last+9, marker(last+4, ahead), event(last+9, last+4))
				} else {
					is(t, "P10.2: Put behind a marker", q.Put(last+9, tagged(last+9)), api.ErrFull)
				}
			}
		}
	}
}

// TestRoomBehindMarker: P10.3 and P10.10, a marker is one item: behind it there is room for all but one.
func TestRoomBehindMarker(t *testing.T) {
	for room := 1; room <= api.MaxQueue; room++ {
		q := filled(t, room, 1, room)
		last := room + 2
		is(t, "P10.3: Collapse", q.Collapse(last, parts(last)), api.OK)
		want := []api.Item{marker(last, 1)}
		for range room - 1 {
			last++
			is(t, "P10.2: Put", q.Put(last, tagged(last)), api.OK)
			want = append(want, event(last, last-1))
		}
		is(t, "P10.2: one item more", q.Put(last+1, tagged(last+1)), api.ErrFull)
		stands(t, q, last, want...)
	}
}

// TestNext: P10.4, so many of the first items, and they stay.
func TestNext(t *testing.T) {
	for _, events := range []int{0, 1, 2, 3, 4, 5} {
		for _, ahead := range []int{0, 2, 4} {
			q := filled(t, 5, ahead, events)
			var want []api.Item
			for stamp := ahead + 1; stamp <= ahead+events; stamp++ {
				want = append(want, event(stamp, stamp-1))
			}
			for _, number := range append(ends(), 3, 4, 5, 6) {
				tells(t, q, number, want[:max(0, min(number, events))]...)
				stands(t, q, ahead+events, want...)
			}
		}
	}
}

// TestTook: P10.5, what is at or below the stamp goes, from the first on; Last stays.
func TestTook(t *testing.T) {
	stamps := []int{3, 4, 9, 20}
	for _, ahead := range []int{0, 1, 2} {
		for _, stamp := range append(ends(), 3, 4, 5, 8, 9, 10, 19, 20, 21) {
			q := made(t, 5, 0)
			if ahead > 0 {
				is(t, "P10.2: Put", q.Put(ahead, tagged(ahead)), api.OK)
				count(t, "P10.5: Took", q.Took(ahead), 1)
			}
			after, taken := ahead, 0
			var want []api.Item
			for _, s := range stamps {
				is(t, "P10.2: Put", q.Put(s, tagged(s)), api.OK)
				if s > stamp {
					want = append(want, event(s, after))
				} else {
					taken++
				}
				after = s
			}
			count(t, "P10.5: Took("+tell(stamp)+")", q.Took(stamp), taken)
			stands(t, q, 20, want...)
			count(t, "P10.5: Took("+tell(stamp)+") again", q.Took(stamp), 0)
			stands(t, q, 20, want...)
			is(t, "P10.2: Put behind", q.Put(21, tagged(21)), api.OK)
			stands(t, q, 21, append(want, event(21, 20))...)
		}
	}
}

// TestTookMarker: P10.5, a marker is taken by its stamp as an event is, not by the stamps that it stands for.
func TestTookMarker(t *testing.T) {
	q := filled(t, 2, 0, 2)
	is(t, "P10.3: Collapse", q.Collapse(8, parts(8)), api.OK)
	for _, stamp := range []int{0, 1, 2, 7} {
		count(t, "P10.5: Took("+tell(stamp)+")", q.Took(stamp), 0)
	}
	stands(t, q, 8, marker(8, 0))
	count(t, "P10.5: Took(8)", q.Took(8), 1)
	stands(t, q, 8)
	is(t, "P10.3: Collapse of an empty queue", q.Collapse(9, parts(9)), api.OK)
	stands(t, q, 9, marker(9, 8))
}

// TestLastStays: P10.5 and P10.6, Last is that of the last item ever, however much was taken.
func TestLastStays(t *testing.T) {
	q := made(t, 2, 6)
	count(t, "P10.5: Took of nothing", q.Took(most), 0)
	stands(t, q, 6)
	is(t, "P10.2: Put", q.Put(8, tagged(8)), api.OK)
	count(t, "P10.5: Took", q.Took(math.MaxInt), 1)
	stands(t, q, 8)
	is(t, "P10.2: Put at what was taken", q.Put(8, tagged(8)), api.ErrQueue)
	is(t, "P10.3: Collapse at what was taken", q.Collapse(8, parts(8)), api.ErrQueue)
	is(t, "P10.2: Put", q.Put(10, tagged(10)), api.OK)
	stands(t, q, 10, event(10, 8))
	is(t, "P10.2: Put of the greatest", q.Put(most, tagged(1)), api.OK)
	is(t, "P10.3: Collapse behind the greatest", q.Collapse(most, parts(1)), api.ErrQueue)
	is(t, "P10.3: Collapse above the greatest", q.Collapse(most+1, parts(1)), api.ErrNumber)
	count(t, "P10.5: Took of the greatest", q.Took(most), 2)
	stands(t, q, most)
	is(t, "P10.2: Put above the greatest", q.Put(most+1, tagged(1)), api.ErrNumber)
}

// TestEmpties: P10.8, a nil and a zero queue have no room, whatever is asked, again and again.
func TestEmpties(t *testing.T) {
	for name, q := range empties() {
		for range 2 {
			for _, stamp := range ends() {
				want, bare := follow(stamp, 0), api.ErrQueue
				if want == api.OK {
					want = api.ErrFull
				}
				if want == api.ErrNumber {
					bare = api.ErrNumber
				}
				for _, changes := range untagged() {
					is(t, "P10.8: "+name+": Put of "+tell(changes), q.Put(stamp, changes), bare)
				}
				is(t, "P10.8: "+name+": Collapse to no parts", q.Collapse(stamp, nil), bare)
				is(t, "P10.8: "+name+": Put("+tell(stamp)+")", q.Put(stamp, tagged(1)), want)
				is(t, "P10.8: "+name+": Collapse("+tell(stamp)+")", q.Collapse(stamp, parts(1)), want)
				count(t, "P10.8: "+name+": Took", q.Took(stamp), 0)
				tells(t, q, stamp)
				stands(t, q, 0)
			}
		}
	}
}
