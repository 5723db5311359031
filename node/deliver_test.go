package node_test

import (
	"testing"

	"herald/api"
)

// heardBy is a lone server with sessions that are open, each heard from its address and with a connection of its number; all watch everything below the root.
func heardBy(t *testing.T, rules api.Rules, sessions ...int) *server {
	t.Helper()
	s := start(t, 1, rules, nil)
	s.silently(0, tells(1, 1, 0))
	for _, session := range sessions {
		s.silently(100+session, opens(session))
	}
	for _, session := range sessions {
		s.silently(100+session, resumes(session, session, len(sessions), watch(session, "/", api.WatchSubtree)))
	}
	s.node.Played()
	return s
}

func of(change api.Change, stamp, after, id int) api.Item {
	return event(stamp, after, []int{id}, change)
}

// TestDelivering: P14.2, P14.4 and P14.6, what is delivered when: to all when an entry is played, and at ticks; to one when it resumes, or takes items off.
func TestDelivering(t *testing.T) {
	rules := api.Rules{Nodes: 1, Clients: 3, Queue: 3, Ring: 8, Window: 2}
	s := heardBy(t, rules, 3, 1, 2)
	one := of(made("/a"), 4, 3, 1)
	two := of(made("/a"), 4, 3, 2)
	three := of(made("/a"), 4, 3, 3)
	all := func(items ...[]api.Item) []any {
		var list []any
		for i, of := range items {
			if len(of) > 0 {
				list = append(list, 101+i, delivers(1, 1+i, 1+i, []int{1 + i}, of...))
			}
		}
		return list
	}
	s.takes(102, calls(2, 1, makes("/a")), append([]any{entry(4, 1, asking(2, 1, makes("/a"))), commit(4), 102, answers(1, 2, 1, fine(4, "/a"))},
		all([]api.Item{one}, []api.Item{two}, []api.Item{three})...)...)
	s.shows(viewOf(1, 1, 0), true, 0, 4, 4, [2]int{1, 1}, [2]int{2, 1}, [2]int{3, 1})
	tick := []any{0, asks(), 0, settles(1)}
	s.ticks(append(tick, all([]api.Item{one}, []api.Item{two}, []api.Item{three})...)...)
	s.ticks(append(tick, all([]api.Item{one}, []api.Item{two}, []api.Item{three})...)...)
	// What takes nothing off is answered by nothing.
	s.takes(101, took(1, 1, 3))
	s.takes(101, took(1, 1, 4))
	s.takes(101, took(1, 1, 4))
	s.ticks(append(tick, all(nil, []api.Item{two}, []api.Item{three})...)...)
	// An entry that changes nothing is an entry, too: it delivers what waits.
	s.takes(101, calls(1, 1, gets("/a")), append([]any{entry(5, 1, asking(1, 1, gets("/a"))), commit(5), 101, answers(1, 1, 1, api.Reply{Stamp: 5, Results: []api.Result{{Place: "/a", Data: "x", Made: 4, Changed: 4}}})},
		all(nil, []api.Item{two}, []api.Item{three})...)...)
	// No more than a window, of the first ones.
	b, c := made("/b"), made("/c")
	s.takes(103, calls(3, 1, makes("/b")), append([]any{entry(6, 1, asking(3, 1, makes("/b"))), commit(6), 103, answers(1, 3, 1, fine(6, "/b"))},
		all([]api.Item{of(b, 6, 4, 1)}, []api.Item{two, of(b, 6, 4, 2)}, []api.Item{three, of(b, 6, 4, 3)})...)...)
	s.takes(103, calls(3, 2, makes("/c")), append([]any{entry(7, 1, asking(3, 2, makes("/c"))), commit(7), 103, answers(1, 3, 2, fine(7, "/c"))},
		all([]api.Item{of(b, 6, 4, 1), of(c, 7, 6, 1)}, []api.Item{two, of(b, 6, 4, 2)}, []api.Item{three, of(b, 6, 4, 3)})...)...)
	s.takes(102, took(2, 2, 4), 102, delivers(1, 2, 2, []int{2}, of(b, 6, 4, 2), of(c, 7, 6, 2)))
	s.takes(102, took(2, 2, 6), 102, delivers(1, 2, 2, []int{2}, of(c, 7, 6, 2)))
	// A resume of the connection that is there delivers what waits; an older one, and one that is refused, do not.
	s.takes(102, resumes(2, 2, 0), 102, resumed(1, 2, 2, 7, api.OK), 102, delivers(1, 2, 2, []int{2}, of(c, 7, 6, 2)))
	s.takes(102, resumes(2, 1, 0))
	s.takes(102, resumes(2, 3, 8), 102, resumed(1, 2, 3, 7, api.ErrAhead))
	s.takes(102, resumes(2, 3, 6, watch(9, "/c", api.WatchNode)), 102, resumed(1, 2, 3, 7, api.OK), 102, delivers(1, 2, 3, []int{9}, of(c, 7, 6, 9)))
	// Beats, watches and what is answered at once deliver nothing.
	s.takes(102, beats(2, 3))
	s.takes(102, unwatches(2, 3, 9), 102, unwatched(1, 2, 3, 9))
	s.takes(103, calls(3, 2, makes("/c")), 103, answers(1, 3, 2, fine(7, "/c")))
	s.takes(103, opens(3), 103, opened(1, 3, api.OK))
	// Items stay when their watch is gone; the note tells the watches as they are.
	s.takes(102, took(2, 3, 0))
	s.ticks(append(tick, 101, delivers(1, 1, 1, []int{1}, of(b, 6, 4, 1), of(c, 7, 6, 1)), 102, delivers(1, 2, 3, nil, of(c, 7, 6, 9)), 103, delivers(1, 3, 3, []int{3}, three, of(b, 6, 4, 3)))...)
	s.shows(viewOf(1, 1, 0), true, 0, 7, 7, [2]int{1, 2}, [2]int{2, 1}, [2]int{3, 3})
}

// TestMarkerIsDelivered: P14.2, a queue that was full is one marker.
func TestMarkerIsDelivered(t *testing.T) {
	rules := api.Rules{Nodes: 1, Clients: 2, Queue: 1, Ring: 1, Window: 8}
	s := heardBy(t, rules, 1)
	s.silently(101, calls(1, 1, makes("/a")))
	shot := api.Shot{Stamp: 3, Place: "/", Kind: api.WatchSubtree, Nodes: []api.Seen{{Place: "/"}, {Place: "/a", Data: "x"}, {Place: "/b", Data: "x"}}}
	marker := api.Item{Stamp: 3, After: 1, Marker: true, Parts: []api.Part{{Id: 1, Shot: shot}}}
	s.takes(102, calls(1, 2, makes("/b")), entry(3, 1, asking(1, 2, makes("/b"))), commit(3), 102, answers(1, 1, 2, fine(3, "/b")), 102, delivers(1, 1, 1, []int{1}, marker))
	s.ticks(0, asks(), 0, settles(1), 102, delivers(1, 1, 1, []int{1}, marker))
	s.shows(viewOf(1, 1, 0), true, 2, 3, 3, [2]int{1, 1})
	// Who comes back with too little is told a marker, too.
	marker.After = 0
	marker.Parts[0].Id = 7
	s.takes(101, resumes(1, 2, 0, watch(7, "/", api.WatchSubtree)), 101, resumed(1, 1, 2, 3, api.OK), 101, delivers(1, 1, 2, []int{7}, marker))
}

// TestWhoIsOverIsDropped: P14.1, a session that ends has no queue any more, and what waited for it is not delivered.
func TestWhoIsOverIsDropped(t *testing.T) {
	rules := api.Rules{Nodes: 1, Clients: 4, Queue: 4, Ring: 8, Window: 2, Lease: 0}
	s := heardBy(t, rules, 1, 2, 3)
	s.silently(101, calls(1, 1, makes("/a")))
	s.shows(viewOf(1, 1, 0), true, 0, 4, 4, [2]int{1, 1}, [2]int{2, 1}, [2]int{3, 1})
	rest := []any{102, delivers(1, 2, 2, []int{2}, of(made("/a"), 4, 3, 2)), 103, delivers(1, 3, 3, []int{3}, of(made("/a"), 4, 3, 3))}
	s.takes(101, closes(1), append([]any{entry(5, 1, closing(1)), commit(5), 101, gone(1, 1)}, rest...)...)
	s.shows(viewOf(1, 1, 0), true, 0, 5, 5, [2]int{2, 1}, [2]int{3, 1})
	s.takes(104, opens(18), append([]any{entry(6, 1, opening(18)), commit(6), 104, opened(1, 18, api.OK)}, rest[2:]...)...)
	s.shows(viewOf(1, 1, 0), true, 0, 6, 6, [2]int{3, 1})
	s.takes(102, took(2, 2, 4), 102, gone(1, 2))
	s.takes(101, resumes(1, 9, 0), 101, gone(1, 1))
}

// TestWhoIsToGoStays: P14.1 and P14.2, a session that is still open here has its queue, and is told what is played, until its end is played.
func TestWhoIsToGoStays(t *testing.T) {
	rules := three
	rules.Ring = 8
	s := pairOf(t, rules, 1, 2)
	s.takes(101, resumes(1, 1, 2, watch(1, "/", api.WatchSubtree)), 101, resumed(1, 1, 1, 2, api.OK))
	s.takes(101, resumes(2, 1, 2, watch(1, "/", api.WatchSubtree)), 101, resumed(1, 2, 1, 2, api.OK))
	e := placed(2, 1, asking(1, 1, makes("/a")), closing(1), opening(18))
	s.takes(101, calls(1, 1, makes("/a")), entry(3, 1, e[0]), 2, appends(1, 2, 1, 2, e[:1]...))
	s.takes(101, closes(1), entry(4, 1, e[1]), 2, appends(1, 2, 1, 2, e[:2]...))
	s.takes(102, opens(18), entry(5, 1, e[2]), 2, appends(1, 2, 1, 2, e...))
	one, two := delivers(1, 1, 1, []int{1}, of(made("/a"), 3, 2, 1)), delivers(1, 2, 1, []int{1}, of(made("/a"), 3, 2, 1))
	s.takes(2, acks(1, 3), commit(3), 2, appends(1, 3, 1, 3, e[1:]...), 101, answers(1, 1, 1, fine(3, "/a")), 101, one, 101, two)
	s.shows(viewOf(1, 1, 2), true, 0, 3, 5, [2]int{1, 1}, [2]int{2, 1})
	s.ticks(0, asks(), 0, settles(1), 2, appends(1, 3, 1, 3, e[1:]...), 101, one, 101, two)
	s.takes(2, acks(1, 4), commit(4), 2, appends(1, 4, 1, 4, e[2]), 101, gone(1, 1), 101, two)
	s.shows(viewOf(1, 1, 2), true, 0, 4, 5, [2]int{2, 1})
	s.takes(2, acks(1, 5), commit(5), 102, opened(1, 18, api.OK))
	s.shows(viewOf(1, 1, 2), true, 0, 5, 5)
}

// TestUnheardQueue: P14.2, nothing is delivered to a session that has a queue, but no address.
func TestUnheardQueue(t *testing.T) {
	rules := three
	s := start(t, 1, rules, disk(t, view(1, 1, 2), entry(1, 1, opening(1)), commit(1)), view(1, 1, 2), entry(1, 1, opening(1)), commit(1), 2, probes(1))
	s.takes(2, joins(1, 1, 1), 0, settles(1))
	// Given up ahead of being heard: it is open here, but will not be.
	for range 3 {
		s.ticks(0, asks(), 0, settles(1), 2, appends(1, 1, 1, 1))
	}
	e := placed(1, 1, expiring(1), opening(2))
	s.ticks(entry(2, 1, e[0]), 0, asks(), 0, settles(1), 2, appends(1, 1, 1, 1), 2, appends(1, 1, 1, 1, e[0]))
	w := watch(1, "/", api.WatchSubtree)
	s.takes(101, resumes(1, 1, 0, w), 101, resumed(1, 1, 1, 1, api.OK))
	s.shows(viewOf(1, 1, 2), true, 0, 1, 2, [2]int{1, 0})
	s.takes(101, calls(1, 1, makes("/a")))
	s.takes(101, closes(1))
	s.takes(101, opens(1))
	s.takes(102, opens(2), entry(3, 1, e[1]), 2, appends(1, 1, 1, 1, e...))
	// Nobody is told that it is given up, as nobody was heard.
	s.takes(2, acks(1, 3), commit(3), 102, opened(1, 2, api.OK))
	s.shows(viewOf(1, 1, 2), true, 0, 3, 3)
}

// TestUnheardItems: P14.2, items wait for a session that is not known here.
func TestUnheardItems(t *testing.T) {
	rules := api.Rules{Nodes: 2, Clients: 2, Queue: 4, Ring: 8, Window: 4, Lease: 1}
	make := asking(1, 1, makes("/a"))
	s := start(t, 1, rules, disk(t, view(1, 1, 2), entry(1, 1, opening(1)), entry(2, 1, make), commit(2)), view(1, 1, 2), entry(1, 1, opening(1)), entry(2, 1, make), commit(2), 2, probes(1))
	s.takes(2, joins(1, 2, 1), 0, settles(1))
	s.ticks(0, asks(), 0, settles(1), 2, appends(1, 2, 1, 2))
	e := placed(2, 1, expiring(1))
	s.ticks(entry(3, 1, e[0]), 0, asks(), 0, settles(1), 2, appends(1, 2, 1, 2), 2, appends(1, 2, 1, 2, e[0]))
	s.takes(101, resumes(1, 1, 0, watch(1, "/", api.WatchSubtree)), 101, resumed(1, 1, 1, 2, api.OK))
	s.shows(viewOf(1, 1, 2), true, 0, 2, 3, [2]int{1, 1})
	s.ticks(0, asks(), 0, settles(1), 2, appends(1, 2, 1, 2, e[0]))
	s.takes(101, took(1, 1, 1))
	s.takes(101, took(1, 1, 2))
	s.shows(viewOf(1, 1, 2), true, 0, 2, 3, [2]int{1, 0})
}

// TestLeases: P14.6, a session is given up at the tick at which it was quiet for more units than the lease; one that is heard begins anew.
func TestLeases(t *testing.T) {
	for _, lease := range []int{1, 2, 3, 10, api.MaxLease} {
		rules := alone
		rules.Lease = lease
		s := start(t, 1, rules, nil)
		s.silently(0, tells(1, 1, 0))
		s.silently(101, opens(1))
		s.silently(102, opens(2))
		quiet := []any{0, asks(), 0, settles(1)}
		for range lease {
			s.ticks(quiet...)
		}
		s.takes(102, beats(1, 1), 102, resumed(1, 1, 1, 2, api.ErrSession))
		s.ticks(entry(3, 1, expiring(2)), commit(3), 0, asks(), 0, settles(1), 102, gone(1, 2))
		for range lease - 1 {
			s.ticks(quiet...)
		}
		s.ticks(entry(4, 1, expiring(1)), commit(4), 0, asks(), 0, settles(1), 102, gone(1, 1))
		s.ticks(quiet...)
		s.hasPlayed(placed(0, 1, opening(1), opening(2), expiring(2), expiring(1))...)
	}
}

// TestNoLease: P14.6, with the lease 0 nobody is given up.
func TestNoLease(t *testing.T) {
	rules := alone
	rules.Lease = 0
	s := start(t, 1, rules, nil)
	s.silently(0, tells(1, 1, 0))
	s.silently(101, opens(1))
	for range 1100 {
		s.ticks(0, asks(), 0, settles(1))
	}
}

// TestLeaseOfOthers: P14.6, sessions that were never heard are counted from the first tick of an active server on; several are given up at one tick, by their numbers; at a server that is not active no time goes by.
func TestLeaseOfOthers(t *testing.T) {
	rules := api.Rules{Nodes: 2, Clients: 2, Queue: 2, Ring: 8, Window: 2, Lease: 2}
	story := []api.Record{view(1, 1, 2), entry(1, 1, opening(20)), entry(2, 1, opening(3)), entry(3, 1, opening(1)), commit(3)}
	s := start(t, 1, rules, disk(t, story...), append(anyOf(story), 2, probes(1))...)
	for range 5 {
		s.ticks(0, asks(), 2, probes(1))
	}
	s.takes(2, joins(1, 3, 1), 0, settles(1))
	quiet := []any{0, asks(), 0, settles(1), 2, appends(1, 3, 1, 3)}
	s.ticks(quiet...)
	s.takes(102, closes(3), entry(4, 1, closing(3)), 2, appends(1, 3, 1, 3, placed(3, 1, closing(3))...))
	quiet[5] = appends(1, 3, 1, 3, placed(3, 1, closing(3))...)
	s.ticks(quiet...)
	// 3 is to be closed: it is not given up beside that.
	e := placed(3, 1, closing(3), expiring(1), expiring(20))
	s.ticks(entry(5, 1, e[1]), entry(6, 1, e[2]), 0, asks(), 0, settles(1), 2, appends(1, 3, 1, 3, e[:1]...), 2, appends(1, 3, 1, 3, e[:2]...), 2, appends(1, 3, 1, 3, e...))
	s.ticks(0, asks(), 0, settles(1), 2, appends(1, 3, 1, 3, e...))
	s.takes(2, acks(1, 6), commit(6), 102, gone(1, 3))
	s.ticks(0, asks(), 0, settles(1), 2, appends(1, 6, 1, 6))
}

// TestQuietIsForgotten: P14.1 and P14.6, at another view the time that has gone by counts no more.
func TestQuietIsForgotten(t *testing.T) {
	rules := alone
	rules.Lease = 2
	s := start(t, 1, rules, nil)
	s.silently(0, tells(1, 1, 0))
	s.silently(101, opens(1))
	s.ticks(0, asks(), 0, settles(1))
	s.ticks(0, asks(), 0, settles(1))
	s.takes(0, tells(2, 1, 0), view(2, 1, 0), 0, settles(2))
	s.ticks(0, asks(), 0, settles(2))
	s.ticks(0, asks(), 0, settles(2))
	s.ticks(entry(2, 2, expiring(1)), commit(2), 0, asks(), 0, settles(2))
	// Nor does that of a session that is over, for one that takes its place.
	s.silently(101, opens(17))
	s.ticks(0, asks(), 0, settles(2))
	s.ticks(0, asks(), 0, settles(2))
	s.silently(101, opens(33))
	s.ticks(0, asks(), 0, settles(2))
	s.ticks(0, asks(), 0, settles(2))
	s.ticks(entry(5, 2, expiring(33)), commit(5), 0, asks(), 0, settles(2), 101, gone(2, 33))
}
