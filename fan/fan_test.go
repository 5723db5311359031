package fan_test

import (
	"math"
	"slices"
	"strings"
	"testing"

	"herald/api"
	"herald/fan"
	"herald/state"
)

// TestNew: P11.1, at all rooms, keeps and floors at and around the edges, refusals in their order.
func TestNew(t *testing.T) {
	for _, room := range ends() {
		for _, keep := range ends() {
			for _, floor := range ends() {
				want := api.OK
				if floor < 0 || floor > 2147483647 {
					want = api.ErrNumber
				}
				if room < 1 || room > 32 || keep < 1 || keep > 64 {
					want = api.ErrArg
				}
				h, code := fan.New(room, keep, floor)
				if code != want || (h == nil) != (want != api.OK) {
					t.Errorf("P11.1: New(%d, %d, %d) = %v, %d, want %d", room, keep, floor, h != nil, code, want)
				}
				if h != nil {
					(&again{room: room, keep: keep, begin: floor}).isLike(t, h, 0, 1, most)
				}
			}
		}
	}
}

// TestExamples: the chapter's examples, line by line.
func TestExamples(t *testing.T) {
	s := storyOf(t, 0, opens(7), asks(7, 1, makes("/a", "")), asks(7, 2, sets("/a", "x")), asks(7, 3, sets("/a", "y")))
	x := hallOf(t, 2, 3, s)
	root, node := all(1, 0), watch(1, "/a", api.WatchNode, 0)
	x.resume(7, 1, 0)
	x.watches(7, 1, root)
	for _, refused := range []struct {
		session, conn int
		watch         api.Watch
		want          api.Errno
	}{{7, 2, watch(2, "/", api.WatchNode, 0), api.ErrSession}, {8, 1, root, api.ErrSession}, {7, 1, watch(1, "/", api.WatchNode, 0), api.ErrWatch}} {
		_, code := x.Watch(refused.session, refused.conn, refused.watch, x.now())
		is(t, "P11.4: Watch", code, refused.want)
	}
	x.commit(1)
	x.tells(7)
	x.commit(2)
	x.tells(7, api.Item{Stamp: 2, Changes: []api.Tagged{{Change: api.Change{Kind: api.ChangeMade, Place: "/a"}, Tags: []int{1}}}})
	is(t, "P11.2: Commit(2)", x.Commit(2, nil, x.now()), api.ErrStamp)
	is(t, "P11.2: Commit(4)", x.Commit(4, nil, x.now()), api.ErrStamp)
	x.commit(4)
	x.tells(7, api.Item{Stamp: 4, Marker: true, Parts: []api.Part{{Id: 1, Shot: api.Shot{Stamp: 4, Place: "/", Kind: api.WatchSubtree, Nodes: []api.Seen{{Place: "/"}, {Place: "/a", Data: "y", Version: 2}}}}}})
	count(t, "P11.7: Floor", x.Floor(), 1)
	count(t, "P11.7: Last", x.Last(), 4)
	x.seats([3]int{7, 1, 1})
	is(t, "P11.6: Took", x.Took(7, 1, 4), api.OK)
	x.tells(7)
	x.resume(7, 1, 0)
	x.has(7, root)
	x.resume(7, 2, 3, watch(1, "/a", api.WatchNode, 3))
	x.tells(7, api.Item{Stamp: 4, After: 3, Changes: []api.Tagged{{Change: api.Change{Kind: api.ChangeSet, Place: "/a", Data: "y", Version: 2}, Tags: []int{1}}}})
	x.resume(7, 3, 0, node)
	x.tells(7, x.marker(4, 0, node))
	is(t, "P11.3: Resume ahead", x.Resume(7, 3, 5, nil, x.now()), api.ErrAhead)
	is(t, "P11.3: Resume of an older connection", x.Resume(7, 2, 4, nil, x.now()), api.ErrOld)
}

// TestEmpties: a nil and a zero hub say ErrArg ahead of all else, tell nothing, and stay so.
func TestEmpties(t *testing.T) {
	m := state.New()
	for name, h := range empties() {
		for range 2 {
			for _, n := range ends() {
				for _, m := range []*state.Machine{nil, m} {
					is(t, name+": Commit", h.Commit(n, nil, m), api.ErrArg)
					is(t, name+": Commit", h.Commit(1, odd(), m), api.ErrArg)
					is(t, name+": Resume", h.Resume(n, 1, 0, nil, m), api.ErrArg)
					is(t, name+": Resume", h.Resume(1, n, n, make([]api.Watch, 5), m), api.ErrArg)
					part, code := h.Watch(1, 1, all(n, 0), m)
					is(t, name+": Watch", code, api.ErrArg)
					if !samePart(part, api.Part{}) {
						t.Errorf("%s: Watch tells %s", name, tell(part))
					}
				}
				is(t, name+": Unwatch", h.Unwatch(1, 1, n), api.ErrArg)
				is(t, name+": Took", h.Took(1, 1, n), api.ErrArg)
				h.Drop(n)
				h.Clear()
				(&again{}).isLike(t, h, 0, 1, n)
			}
		}
	}
}

// TestCommitRefused: P11.2, at all stamps and with all machines but the next ones, refusals in their order; nothing changes.
func TestCommitRefused(t *testing.T) {
	s := plain(t, 0)
	x := hallOf(t, 3, 2, s)
	g := &again{room: 3, keep: 2}
	for stamp := 1; stamp <= 3; stamp++ {
		call{kind: "commit", number: stamp, changes: s.of(stamp), machine: s.at(stamp)}.holds(t, x.Hub, g)
		call{kind: "resume", session: 7, conn: stamp, number: 0, watches: []api.Watch{all(1, 0)}, machine: s.at(stamp)}.holds(t, x.Hub, g)
		for _, number := range append(ends(), stamp-1, stamp, stamp+2) {
			is(t, "P11.2: Commit("+tell(number)+") without a machine", x.Commit(number, s.of(2), nil), api.ErrArg)
			for at := range 6 {
				if number != stamp+1 || at != number {
					is(t, "P11.2: Commit("+tell(number)+") by a machine at "+tell(at), x.Commit(number, s.of(2), s.at(at)), api.ErrStamp)
				}
			}
			g.isLike(t, x.Hub, 7)
		}
	}
}

// TestGreatestStamps: P11.2 and W7, the greatest stamp may be committed, and none behind it, whatever the machine; sessions and watches may have the greatest numbers.
func TestGreatestStamps(t *testing.T) {
	s := busy(t, most-4, 2)
	x := hallOf(t, 9, 2, s)
	w := watch(most, "/", api.WatchSubtree, most-4)
	x.resume(most, most, most-4, w)
	x.commit(most)
	x.tells(most, x.event(most-2, most-4, w), x.event(most-1, most-2, w), x.event(most, most-1, w))
	count(t, "P11.7: Last", x.Last(), most)
	count(t, "P11.7: Floor", x.Floor(), most-2)
	for _, stamp := range []int{most + 1, most, 1, 0} {
		is(t, "P11.2: Commit("+tell(stamp)+")", x.Commit(stamp, nil, s.at(most)), api.ErrStamp)
	}
	x.watches(most, most, watch(1, "/a", api.WatchNode, 0))
	x.has(most, watch(1, "/a", api.WatchNode, most), w)
	is(t, "P11.3: Resume at the greatest stamp", x.Resume(1, 1, most, []api.Watch{all(1, most)}, x.now()), api.OK)
	is(t, "P11.3: Resume above it", x.Resume(1, 2, most+1, nil, x.now()), api.ErrArg)
	is(t, "P11.6: Took", x.Took(most, most, most), api.OK)
	x.seats([3]int{1, 1, 0}, [3]int{most, most, 0})
	top := made(t, 1, 1, most)
	is(t, "P11.2: Commit behind the greatest floor", top.Commit(most+1, nil, s.at(most)), api.ErrStamp)
	count(t, "P11.7: Last", top.Last(), most)
}

// TestFloor: P11.2 and P11.9, of every keep the floor rises with the first entry that does not fit any more, entries without changes count.
func TestFloor(t *testing.T) {
	s := busy(t, 5, api.MaxRing+2)
	for keep := 1; keep <= api.MaxRing; keep++ {
		x := hallOf(t, 1, keep, s)
		for stamp := 6; stamp <= s.end(); stamp++ {
			changes := s.of(stamp)
			if stamp%3 == 0 {
				changes = nil
			}
			is(t, "P11.2: Commit", x.Commit(stamp, changes, s.at(stamp)), api.OK)
			count(t, "P11.7: Last", x.Last(), stamp)
			count(t, "P11.2: Floor of a memory of "+tell(keep)+" behind "+tell(stamp), x.Floor(), max(5, stamp-keep))
		}
	}
}

// TestTags: P11.2, of an entry's changes those are told, in their order, that match, each with the ids of all watches that it matches, rising; what no watch is for is left out.
func TestTags(t *testing.T) {
	x := hallOf(t, 9, 9, plain(t, 0))
	list := []api.Watch{watch(9, "/a", api.WatchNode, 0), watch(2, "/", api.WatchKids, 0), watch(5, "/a", api.WatchSubtree, 0), watch(3, "/a", api.WatchKids, 0)}
	x.resume(7, 1, 0, list...)
	x.resume(8, 1, 0, watch(1, "/b", api.WatchSubtree, 0))
	x.resume(6, 1, 0, watch(4, "/none", api.WatchSubtree, 0))
	x.commit(5)
	made, set := api.ChangeMade, api.ChangeSet
	x.tells(7,
		api.Item{Stamp: 2, Changes: []api.Tagged{{Change: api.Change{Kind: made, Place: "/a", Data: "1"}, Tags: []int{2, 3, 5, 9}}, {Change: api.Change{Kind: made, Place: "/b"}, Tags: []int{2}}}},
		api.Item{Stamp: 3, After: 2, Changes: []api.Tagged{{Change: api.Change{Kind: set, Place: "/a", Data: "2", Version: 1}, Tags: []int{5, 9}}}},
		api.Item{Stamp: 5, After: 3, Changes: []api.Tagged{{Change: api.Change{Kind: made, Place: "/a/c", Data: "x"}, Tags: []int{3, 5}}, {Change: api.Change{Kind: set, Place: "/a", Data: "3", Version: 2}, Tags: []int{5, 9}}, {Change: api.Change{Kind: set, Place: "/a", Data: "4", Version: 3}, Tags: []int{5, 9}}}})
	x.tells(8,
		api.Item{Stamp: 2, Changes: []api.Tagged{{Change: api.Change{Kind: made, Place: "/b"}, Tags: []int{1}}}},
		api.Item{Stamp: 5, After: 2, Changes: []api.Tagged{{Change: api.Change{Kind: set, Place: "/b", Data: "y", Version: 1}, Tags: []int{1}}}})
	x.tells(6)
}

// TestOddChanges: P11.2 and W1, changes that no machine tells are taken; such as are of no kind or place are for nobody, now and later, however many they are.
func TestOddChanges(t *testing.T) {
	x := hallOf(t, 9, 9, plain(t, 0))
	x.resume(7, 1, 0, all(1, 0))
	long := strings.Repeat("\xff/", 200000)
	is(t, "P11.2: Commit of odd changes", x.Commit(1, odd(), x.at(1)), api.OK)
	is(t, "P11.2: Commit of no places", x.Commit(2, []api.Change{{}, {Kind: 1, Place: long, Data: long}, {Kind: math.MaxInt, Place: "/"}, {Kind: math.MinInt, Place: "/"}}, x.at(2)), api.OK)
	is(t, "P11.2: Commit of long data", x.Commit(3, []api.Change{{Kind: 2, Place: "/a", Data: long, Version: math.MinInt}}, x.at(3)), api.OK)
	is(t, "P11.2: Commit of many changes", x.Commit(4, slices.Repeat(odd(), 2000), x.at(4)), api.OK)
	right := func(c api.Change) bool { return covers(all(1, 0), c) }
	want := []api.Item{{Stamp: 1}, {Stamp: 3, After: 1}, {Stamp: 4, After: 3}}
	for i, changes := range [][]api.Change{odd(), {{Kind: 2, Place: "/a", Data: long, Version: math.MinInt}}, slices.Repeat(odd(), 2000)} {
		for _, c := range changes {
			if right(c) {
				want[i].Changes = append(want[i].Changes, api.Tagged{Change: c, Tags: []int{1}})
			}
		}
	}
	count(t, "the right ones among the odd changes", len(want[0].Changes), 4)
	x.tells(7, want...)
	x.resume(7, 2, 0, all(1, 0))
	x.tells(7, want...)
}

// TestFullQueue: P11.2 and P11.9, of every room: as many events as there is room, and with one more a marker in the place of all; then events behind it, and a marker again.
func TestFullQueue(t *testing.T) {
	s := busy(t, 0, 2*api.MaxQueue+3)
	w := all(3, 0)
	for room := 1; room <= api.MaxQueue; room++ {
		x := hallOf(t, room, 2, s)
		x.resume(7, 1, 0, w)
		x.commit(1)
		for _, after := range []int{0, room + 2} {
			var want []api.Item
			behind := after
			for range room {
				stamp := x.Last() + 1
				x.commit(stamp)
				want = append(want, x.event(stamp, behind, w))
				x.tells(7, want...)
				behind = stamp
			}
			x.commit(x.Last() + 1)
			x.tells(7, x.marker(x.Last(), after, w))
			x.seats([3]int{7, 1, 1})
			if after == 0 {
				is(t, "P11.6: Took", x.Took(7, 1, x.Last()), api.OK)
			}
		}
		if marker := x.marker(x.Last(), room+2, w); room > 1 {
			x.commit(x.Last() + 1)
			x.tells(7, marker, x.event(x.Last(), x.Last()-1, w))
		}
	}
}

// TestMarkerAlone: P11.2, a full queue stays as it is where an entry matches nothing.
func TestMarkerAlone(t *testing.T) {
	x := hallOf(t, 1, 9, plain(t, 0))
	w := watch(1, "/b", api.WatchNode, 0)
	x.resume(7, 1, 0, w)
	x.commit(4)
	x.tells(7, x.event(2, 0, w))
	x.commit(5)
	x.tells(7, x.marker(5, 0, w))
	x.commit(9)
	x.tells(7, x.marker(5, 0, w))
	x.commit(10)
	x.tells(7, x.marker(10, 0, w))
}

// TestMarkerParts: P11.2, a marker has the parts of all watches, by ids, also of those that nothing matched, that see no node, and that were just added; not of one that is gone.
func TestMarkerParts(t *testing.T) {
	x := hallOf(t, 1, 9, plain(t, 0))
	list := []api.Watch{watch(8, "/a", api.WatchNode, 0), watch(1, "/none", api.WatchSubtree, 0), watch(5, "/b", api.WatchKids, 0), watch(2, "/", api.WatchKids, 0)}
	x.resume(7, 1, 0, list...)
	x.commit(2)
	is(t, "P11.5: Unwatch", x.Unwatch(7, 1, 5), api.OK)
	x.watches(7, 1, watch(4, "/", api.WatchSubtree, 0))
	x.commit(3)
	left := append(slices.Delete(slices.Clone(list), 2, 3), watch(4, "/", api.WatchSubtree, 0))
	x.tells(7, x.marker(3, 0, left...))
	x.commit(5)
	x.tells(7, x.marker(5, 0, left...))
}

// fault turns a call into one that is refused.
type fault struct {
	name string
	turn func(*call)
	want api.Errno
}

// refusedInOrder holds of every two faults at one time that the one told is the first.
func refusedInOrder(t *testing.T, h *fan.Hub, g *again, right call, faults []fault) {
	t.Helper()
	for i, one := range faults {
		for _, other := range faults[i:] {
			x := right
			x.watches = slices.Clone(right.watches)
			other.turn(&x)
			one.turn(&x)
			a := x.on(h)
			if a.code != one.want || !samePart(a.part, api.Part{}) {
				t.Errorf("P11.3, P11.4: %s with %s and %s answers %s, want %d", right.kind, one.name, other.name, tell(a), one.want)
			}
			g.isLike(t, h, 7, 8)
		}
	}
	if a := right.on(h); a.code != api.OK {
		t.Errorf("P11.3, P11.4: the %s that is to be spoilt says %d itself", right.kind, a.code)
	}
}

// manned is a hub with sessions 7 (connection 5) and 8, with items, and its second reckoning.
func manned(t *testing.T, s *story) (*fan.Hub, *again) {
	t.Helper()
	h, g := made(t, 2, 3, s.begin), &again{room: 2, keep: 3, begin: s.begin}
	for _, x := range []call{
		{kind: "resume", session: 7, conn: 5, number: 0, watches: []api.Watch{all(1, 0), watch(2, "/a", api.WatchNode, 0)}, machine: s.at(0)},
		{kind: "resume", session: 8, conn: 1, number: 0, watches: []api.Watch{watch(1, "/b", api.WatchNode, 0)}, machine: s.at(0)},
	} {
		is(t, "P11.3: Resume", x.holds(t, h, g).code, api.OK)
	}
	for stamp := 1; stamp <= 4; stamp++ {
		call{kind: "commit", number: stamp, changes: s.of(stamp), machine: s.at(stamp)}.holds(t, h, g)
	}
	g.isLike(t, h, 7, 8)
	return h, g
}

// TestResumeRefused: P11.3, each error and each two of them at one time; nothing changes.
func TestResumeRefused(t *testing.T) {
	s := plain(t, 0)
	turnLast := func(turn func(*api.Watch)) func(*call) {
		return func(x *call) { turn(&x.watches[len(x.watches)-1]) }
	}
	var faults []fault
	add := func(name string, want api.Errno, turn func(*call)) { faults = append(faults, fault{name, turn, want}) }
	add("too many watches", api.ErrLong, func(x *call) { x.watches = append(x.watches, x.watches[0], x.watches[1], x.watches[0], x.watches[1]) })
	add("no machine", api.ErrArg, func(x *call) { x.machine = nil })
	for _, n := range []int{math.MinInt, -1, 0, most + 1, math.MaxInt} {
		add("session "+tell(n), api.ErrArg, func(x *call) { x.session = n })
		add("connection "+tell(n), api.ErrArg, func(x *call) { x.conn = n })
		if n != 0 {
			add("last "+tell(n), api.ErrArg, func(x *call) { x.number = n })
		}
	}
	add("a machine behind", api.ErrStamp, func(x *call) { x.machine = s.at(3) })
	add("a machine ahead", api.ErrStamp, func(x *call) { x.machine = s.at(5) })
	for _, n := range []int{math.MinInt, -1, 0, most + 1, math.MaxInt} {
		add("id "+tell(n), api.ErrNumber, turnLast(func(w *api.Watch) { w.Id = n }))
		if n != 0 {
			add("from "+tell(n), api.ErrNumber, turnLast(func(w *api.Watch) { w.From = n }))
		}
	}
	for _, text := range []string{"", "a", "/a/", strings.Repeat("/a", 100)} {
		add("place "+text, api.ErrPlace, turnLast(func(w *api.Watch) { w.Place = text }))
	}
	for _, n := range []int{math.MinInt, -1, 0, 4, math.MaxInt} {
		add("kind "+tell(n), api.ErrWatch, turnLast(func(w *api.Watch) { w.Kind = n }))
	}
	add("an id twice", api.ErrWatch, turnLast(func(w *api.Watch) { w.Id = 1 }))
	for _, n := range []int{5, 6, most} {
		add("last "+tell(n), api.ErrAhead, func(x *call) { x.number = n })
		add("from "+tell(n), api.ErrAhead, func(x *call) { x.watches[0].From = n })
	}
	add("an older connection", api.ErrOld, func(x *call) { x.conn = 4 })
	h, g := manned(t, s)
	refusedInOrder(t, h, g, call{kind: "resume", session: 7, conn: 6, number: 4, watches: []api.Watch{all(1, 4), all(2, 4)}, machine: s.at(4)}, faults)
}

// TestFirstWatchRefused: P11.3, of several watches that may not be the first one's error is told, that of a later one ahead of ErrAhead.
func TestFirstWatchRefused(t *testing.T) {
	s := plain(t, 0)
	h, g := manned(t, s)
	good, number, place, kind, ahead := all(9, 4), all(0, 0), watch(5, "x", 1, 0), watch(6, "/", 4, 0), all(7, 5)
	for _, refused := range []struct {
		list []api.Watch
		want api.Errno
	}{
		{[]api.Watch{number, place, kind}, api.ErrNumber}, {[]api.Watch{place, number, kind}, api.ErrPlace}, {[]api.Watch{kind, place, number}, api.ErrWatch},
		{[]api.Watch{good, kind, number, place}, api.ErrWatch}, {[]api.Watch{good, ahead, good}, api.ErrWatch}, {[]api.Watch{ahead, good, place}, api.ErrPlace}, {[]api.Watch{good, good}, api.ErrWatch},
		{[]api.Watch{good, ahead}, api.ErrAhead}, {[]api.Watch{ahead, good}, api.ErrAhead}, {[]api.Watch{good, watch(3, "/", 1, 0), watch(2, "/", 1, 4), watch(1, "/", 1, 5)}, api.ErrAhead},
	} {
		is(t, "P11.3: Resume with "+tell(refused.list), h.Resume(7, 6, 4, refused.list, s.at(4)), refused.want)
		is(t, "P11.3: Resume of the same connection with "+tell(refused.list), h.Resume(7, 5, 4, refused.list, s.at(4)), refused.want)
		is(t, "P11.3: Resume of an older connection with "+tell(refused.list), h.Resume(7, 1, 4, refused.list, s.at(4)), refused.want)
		g.isLike(t, h, 7, 8)
	}
}

// TestConnections: P11.3, a connection that is older, the same, and newer; behind Drop any may come.
func TestConnections(t *testing.T) {
	s := plain(t, 0)
	h, g := manned(t, s)
	other := []api.Watch{watch(4, "/b", api.WatchKids, 4)}
	for _, conn := range []int{1, 4} {
		is(t, "P11.3: Resume of an older connection", h.Resume(7, conn, 4, other, s.at(4)), api.ErrOld)
		g.isLike(t, h, 7, 8)
	}
	for _, last := range []int{0, 1, 4} {
		is(t, "P11.3: Resume of the same connection", h.Resume(7, 5, last, other, s.at(4)), api.OK)
		g.isLike(t, h, 7, 8)
	}
	x := hall{t, h, s}
	x.resume(7, 6, 4, other...)
	x.has(7, other...)
	x.seats([3]int{7, 6, 0}, [3]int{8, 1, 1})
	x.resume(7, most, 1, all(1, 0))
	x.seats([3]int{7, most, 2}, [3]int{8, 1, 1})
	is(t, "P11.3: Resume of an older connection", h.Resume(7, most-1, 4, other, s.at(4)), api.ErrOld)
	h.Drop(7)
	x.resume(7, 1, 4, other...)
	x.seats([3]int{7, 1, 0}, [3]int{8, 1, 1})
}

// TestLastAndFloor: P11.3 and P11.9, of every keep and every last: above, at and below the floor; with watches and without.
func TestLastAndFloor(t *testing.T) {
	s := busy(t, 3, 12)
	w := all(1, 0)
	for keep := 1; keep <= 14; keep++ {
		x := hallOf(t, api.MaxQueue, keep, s)
		x.commit(s.end())
		for last := 0; last <= s.end(); last++ {
			var want []api.Item
			if last < max(3, s.end()-keep) {
				want = []api.Item{x.marker(s.end(), last, w)}
			} else {
				after := last
				for stamp := max(5, last+1); stamp <= s.end(); stamp++ {
					want = append(want, x.event(stamp, after, w))
					after = stamp
				}
			}
			x.resume(7, 2*last+1, last, w)
			x.tells(7, want...)
			x.resume(7, 2*last+2, last)
			x.tells(7)
			x.has(7)
		}
		is(t, "P11.3: Resume ahead", x.Resume(7, most, s.end()+1, nil, x.now()), api.ErrAhead)
	}
}

// TestMissedFull: P11.3, as many missed entries as there is room are told; with one more there is one marker at the hub's last, and what is behind it is not told again.
func TestMissedFull(t *testing.T) {
	s := busy(t, 0, api.MaxRing)
	w := all(1, 0)
	for _, room := range []int{1, 2, 3, api.MaxQueue - 1, api.MaxQueue} {
		x := hallOf(t, room, api.MaxRing, s)
		x.commit(60)
		for missed := range 50 {
			last := 60 - missed
			x.resume(7, missed+1, last, w)
			want := []api.Item{x.marker(60, last, w)}
			if missed <= room {
				want = nil
				for stamp := last + 1; stamp <= 60; stamp++ {
					want = append(want, x.event(stamp, stamp-1, w))
				}
			}
			x.tells(7, want...)
		}
		x.commit(61)
		if room > 1 {
			x.tells(7, x.marker(60, 11, w), x.event(61, 60, w))
		} else {
			x.tells(7, x.marker(61, 11, w))
		}
	}
}

// TestFrom: P11.3 and P11.4, what a watch is told begins behind its From, in what was missed and in what comes; a marker does not ask for it.
func TestFrom(t *testing.T) {
	s := busy(t, 0, 8)
	for from := range 7 {
		x := hallOf(t, 9, 9, s)
		x.commit(6)
		old, late := watch(2, "/a", api.WatchNode, 0), watch(1, "/", api.WatchSubtree, from)
		x.resume(7, 1, 2, old, late)
		x.commit(8)
		after := 2
		var want []api.Item
		for stamp := 3; stamp <= 8; stamp++ {
			e := x.event(stamp, after, old)
			if from < stamp {
				e.Changes[0].Tags = []int{1, 2}
			}
			want, after = append(want, e), stamp
		}
		x.tells(7, want...)
	}
	x := hallOf(t, 1, 9, s)
	x.commit(6)
	x.resume(7, 1, 4, watch(2, "/a", api.WatchNode, 0), watch(1, "/", api.WatchSubtree, 6))
	x.tells(7, x.marker(6, 4, watch(1, "/", api.WatchSubtree, 6), watch(2, "/a", api.WatchNode, 0)))
	x.resume(8, 1, 4, watch(1, "/", api.WatchSubtree, 6))
	x.tells(8)
}

// TestMostWatches: P11.3 and P11.4, as many watches as may be, and one more, by Resume and by Watch.
func TestMostWatches(t *testing.T) {
	s := plain(t, 0)
	x := hallOf(t, 9, 9, s)
	var list []api.Watch
	for id := 1; id <= 4; id++ {
		list = append(list, watch(id, "/a", api.WatchNode, 0))
		x.resume(7, id, 0, list...)
		x.has(7, list...)
	}
	is(t, "P11.3: Resume with five watches", x.Resume(7, 9, 0, append(slices.Clone(list), all(5, 0)), x.now()), api.ErrLong)
	_, code := x.Watch(7, 4, all(5, 0), x.now())
	is(t, "P11.4: a fifth watch", code, api.ErrFull)
	_, code = x.Watch(7, 4, watch(4, "/", api.WatchNode, 0), x.now())
	is(t, "P11.4: a watch of an id that is there", code, api.ErrWatch)
	x.has(7, list...)
	x.commit(2)
	list[1].From = 2
	x.watches(7, 4, list[1])
	x.has(7, list...)
	is(t, "P11.5: Unwatch", x.Unwatch(7, 4, 1), api.OK)
	x.watches(7, 4, watch(5, "/a", api.WatchNode, 2))
	x.has(7, list[1], list[2], list[3], watch(5, "/a", api.WatchNode, 2))
	_, code = x.Watch(7, 4, watch(6, "/a", api.WatchNode, 0), x.now())
	is(t, "P11.4: a fifth watch", code, api.ErrFull)
}

// TestWatchRefused: P11.4, each error and each two of them at one time; nothing changes, and nothing is told.
func TestWatchRefused(t *testing.T) {
	s := plain(t, 0)
	var faults []fault
	add := func(name string, want api.Errno, turn func(*call)) { faults = append(faults, fault{name, turn, want}) }
	add("no machine", api.ErrArg, func(x *call) { x.machine = nil })
	add("a machine behind", api.ErrStamp, func(x *call) { x.machine = s.at(3) })
	add("a machine ahead", api.ErrStamp, func(x *call) { x.machine = s.at(5) })
	for _, n := range []int{math.MinInt, -1, 0, 6, 9, most + 1} {
		add("session "+tell(n), api.ErrSession, func(x *call) { x.session = n })
		add("connection "+tell(n), api.ErrSession, func(x *call) { x.conn = n })
	}
	for _, n := range []int{math.MinInt, -1, 0, most + 1, math.MaxInt} {
		add("id "+tell(n), api.ErrNumber, func(x *call) { x.watches[0].Id = n })
	}
	for _, text := range []string{"", "a", "/a/", strings.Repeat("/a", 100)} {
		add("place "+text, api.ErrPlace, func(x *call) { x.watches[0].Place = text })
	}
	for _, n := range []int{math.MinInt, -1, 0, 4, math.MaxInt} {
		add("kind "+tell(n), api.ErrWatch, func(x *call) { x.watches[0].Kind = n })
	}
	add("an id that is there", api.ErrWatch, func(x *call) { x.watches[0].Id = 2 })
	h, g := manned(t, s)
	refusedInOrder(t, h, g, call{kind: "watch", session: 7, conn: 5, watches: []api.Watch{watch(4, "/b", api.WatchKids, -1)}, machine: s.at(4)}, faults)
}

// TestWatchAgain: P11.4, a watch that is there is told again, from the hub's last on; one with its id that is another is refused.
func TestWatchAgain(t *testing.T) {
	s := plain(t, 0)
	x := hallOf(t, 9, 9, s)
	w := watch(2, "/a", api.WatchSubtree, 0)
	x.resume(7, 1, 0, w, all(1, 0))
	for stamp := 1; stamp <= s.end(); stamp++ {
		x.commit(stamp)
		for _, other := range []api.Watch{watch(2, "/a", api.WatchKids, 0), watch(2, "/b", api.WatchSubtree, 0), watch(1, "/a", api.WatchSubtree, 0)} {
			part, code := x.Watch(7, 1, other, x.now())
			if is(t, "P11.4: Watch", code, api.ErrWatch); !samePart(part, api.Part{}) {
				t.Errorf("P11.4 and W3: a refused Watch tells %s", tell(part))
			}
		}
		if stamp == 4 {
			ahead := x.Next(7, 99)
			for _, from := range ends() {
				x.watches(7, 1, watch(2, "/a", api.WatchSubtree, from))
			}
			x.tells(7, ahead...)
			w.From = 4
		}
		x.has(7, all(1, 0), w)
	}
	x.seats([3]int{7, 1, 7})
}

// TestNewWatch: P11.4, a watch is told what comes behind it, and nothing of what came ahead.
func TestNewWatch(t *testing.T) {
	s := busy(t, 0, 8)
	x := hallOf(t, 9, 9, s)
	x.commit(4)
	x.resume(7, 1, 1)
	x.tells(7)
	for _, from := range []int{-1, 0, 9, most + 1} {
		x.watches(7, 1, watch(3, "/a", api.WatchNode, from))
		x.has(7, watch(3, "/a", api.WatchNode, 4))
	}
	x.tells(7)
	x.commit(6)
	w := watch(3, "/a", api.WatchNode, 4)
	x.tells(7, x.event(5, 1, w), x.event(6, 5, w))
}

// TestUnwatch: P11.5, refusals in their order; what is in the queue stays, and nothing more comes.
func TestUnwatch(t *testing.T) {
	s := busy(t, 0, 8)
	x := hallOf(t, 9, 9, s)
	one, two := watch(1, "/a", api.WatchNode, 0), watch(2, "/", api.WatchSubtree, 0)
	x.resume(7, 3, 0, one, two)
	x.resume(8, 1, 0, one)
	x.commit(3)
	for _, refused := range []struct {
		session, conn, id int
		want              api.Errno
	}{{7, 2, 1, api.ErrSession}, {7, 4, 1, api.ErrSession}, {7, 0, 9, api.ErrSession}, {6, 3, 1, api.ErrSession}, {0, 0, 0, api.ErrSession}, {7, 3, 3, api.ErrWatch}, {7, 3, 0, api.ErrWatch}, {7, 3, math.MinInt, api.ErrWatch}, {7, 3, math.MaxInt, api.ErrWatch}, {8, 1, 2, api.ErrWatch}} {
		is(t, "P11.5: Unwatch("+tell(refused)+")", x.Unwatch(refused.session, refused.conn, refused.id), refused.want)
	}
	is(t, "P11.5: Unwatch", x.Unwatch(7, 3, 1), api.OK)
	is(t, "P11.5: Unwatch again", x.Unwatch(7, 3, 1), api.ErrWatch)
	x.has(7, two)
	x.has(8, one)
	x.commit(4)
	x.tells(7, x.event(2, 0, one, two), x.event(3, 2, one, two), x.event(4, 3, two))
	is(t, "P11.5: Unwatch of the last one", x.Unwatch(7, 3, 2), api.OK)
	x.commit(6)
	x.tells(7, x.event(2, 0, one, two), x.event(3, 2, one, two), x.event(4, 3, two))
	x.tells(8, x.event(2, 0, one), x.event(3, 2, one), x.event(4, 3, one), x.event(5, 4, one), x.event(6, 5, one))
	x.seats([3]int{7, 3, 3}, [3]int{8, 1, 5})
}

// TestTookAndNext: P11.6, at all stamps and numbers; of another session or connection nothing goes.
func TestTookAndNext(t *testing.T) {
	s := busy(t, 0, 8)
	w := all(1, 0)
	for _, stamp := range append(ends(), 3, 4, 5, 6, 7) {
		x := hallOf(t, 9, 9, s)
		x.resume(7, 2, 0, w)
		x.resume(8, 2, 0, w)
		x.commit(6)
		for _, wrong := range [][2]int{{7, 1}, {7, 3}, {7, 0}, {6, 2}, {0, 0}, {-7, 2}} {
			is(t, "P11.6: Took("+tell(wrong)+")", x.Took(wrong[0], wrong[1], stamp), api.ErrSession)
		}
		whole := []api.Item{x.event(2, 0, w), x.event(3, 2, w), x.event(4, 3, w), x.event(5, 4, w), x.event(6, 5, w)}
		x.tells(7, whole...)
		for _, number := range ends() {
			got, want := x.Next(7, number), whole[:max(0, min(number, len(whole)))]
			if !sameAll(got, want) || len(x.Next(6, number)) != 0 || len(x.Next(0, number)) != 0 {
				t.Errorf("P11.6: Next(%d) = %s, want %s", number, tell(got), tell(want))
			}
		}
		is(t, "P11.6: Took("+tell(stamp)+")", x.Took(7, 2, stamp), api.OK)
		x.tells(7, whole[max(1, min(stamp, 6))-1:]...)
		x.tells(8, whole...)
	}
}

// TestDropAndClear: P11.6, of a session that is dropped nothing is there any more, nor of any that is cleared; floor, last and memory stay, and so do the others.
func TestDropAndClear(t *testing.T) {
	s := busy(t, 0, 8)
	w := all(1, 0)
	x := hallOf(t, 9, 4, s)
	for session := 6; session <= 8; session++ {
		x.resume(session, session, 0, w)
	}
	x.commit(6)
	for _, session := range append(ends(), 5, 9) {
		x.Drop(session)
	}
	x.seats([3]int{6, 6, 5}, [3]int{7, 7, 5}, [3]int{8, 8, 5})
	nothing := func(session int) {
		x.tells(session)
		x.has(session)
		is(t, "P11.6: Took", x.Took(session, session, 9), api.ErrSession)
		is(t, "P11.5: Unwatch", x.Unwatch(session, session, 1), api.ErrSession)
		_, code := x.Watch(session, session, w, x.now())
		is(t, "P11.4: Watch", code, api.ErrSession)
	}
	x.Drop(7)
	x.seats([3]int{6, 6, 5}, [3]int{8, 8, 5})
	nothing(7)
	x.Drop(7)
	x.commit(7)
	x.resume(7, 1, 4, watch(2, "/a", api.WatchNode, 5))
	x.tells(7, x.event(6, 4, watch(2, "/a", api.WatchNode, 5)), x.event(7, 6, watch(2, "/a", api.WatchNode, 5)))
	x.has(7, watch(2, "/a", api.WatchNode, 5))
	x.Clear()
	x.seats()
	for session := 6; session <= 8; session++ {
		nothing(session)
	}
	count(t, "P11.6: Last behind Clear", x.Last(), 7)
	count(t, "P11.6: Floor behind Clear", x.Floor(), 3)
	x.commit(8)
	x.seats()
	x.resume(6, 1, 6, w)
	x.resume(7, 1, 3, w)
	x.tells(6, x.event(7, 6, w), x.event(8, 7, w))
	x.tells(7, x.marker(8, 3, w))
}

// TestSessions: P11.7 and W2, sessions are told rising, each with its own connection and count, watches by ids, whatever order they came in.
func TestSessions(t *testing.T) {
	s := busy(t, 0, 8)
	for seed := range uint64(20) {
		c := chanceOf(seed, 7)
		x := hallOf(t, 9, 9, s)
		var want [][3]int
		for _, i := range c.Perm(40) {
			session, last := 1+i*i*7, c.IntN(6)
			x.commit(5)
			x.resume(session, 1+i, last, all(3, 0), watch(most, "/a", 1, 0), watch(1, "/", 2, 0))
			x.has(session, watch(1, "/", 2, 0), all(3, 0), watch(most, "/a", 1, 0))
			want = append(want, [3]int{session, 1 + i, 5 - max(1, last)})
		}
		slices.SortFunc(want, func(a, b [3]int) int { return a[0] - b[0] })
		x.seats(want...)
	}
}
