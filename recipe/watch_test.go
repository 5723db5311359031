package recipe_test

import (
	"testing"

	"herald/api"
)

// eachWatch looks at the standings in which there is a watch of that kind of knowledge.
func eachWatch(t *testing.T, watch int, look func(t *testing.T, s standing, w api.Wish)) {
	t.Helper()
	eachStanding(t, func(t *testing.T, s standing) {
		if s.watch == watch {
			look(t, s, watchOf(s.kind))
		}
	})
}

// wakes is a picture at which the machine does something, and what it wishes for then, and shows.
func (s standing) wakes(id int) (picture, api.Held, []api.Wish) {
	held := s.held
	switch s.kind {
	case api.JobLock:
		return picture{20, nil}, held, []api.Wish{unwatches(id), does(lists("/l"))}
	case api.JobElect:
		held.Phase, held.Stamp, held.Values = api.HeldIn, 20, []string{"me"}
		return picture{20, seen("/l", "", own(s.kind), "me")}, held, nil
	case api.JobBarrier:
		held.Phase, held.Stamp = api.HeldIn, 20
		return picture{20, bare("/l", two(s.kind), own(s.kind))}, held, nil
	}
	return picture{20, bare("/l", two(s.kind))}, held, []api.Wish{does(lists("/l"))}
}

// isGranted holds that a watch of that id is granted now, and its picture looked at.
func (s standing) isGranted(l *life, id int) {
	l.t.Helper()
	p, held, wishes := s.wakes(id)
	w := watchOf(s.kind)
	l.hears(granted(id, shotOf(p.stamp, w.Place, w.Watch, p.nodes...)), wishes...)
	s.held = held
	s.is(l)
}

// isNoGrant holds that nothing that is heard of a watch of that id is heard.
func (s standing) isNoGrant(l *life, id int) {
	l.t.Helper()
	p, _, _ := s.wakes(id)
	w := watchOf(s.kind)
	full := shotOf(p.stamp, w.Place, w.Watch, p.nodes...)
	l.hears(granted(id, full))
	l.hears(refused(id, w.Place, w.Watch, api.ErrFull))
	l.hears(taken(marker(p.stamp, api.Part{Id: id, Shot: full})))
	l.hears(taken(event(p.stamp, dropsNode(two(s.kind), id))))
	l.hears(taken(event(p.stamp, makesNode(two(s.kind), "", id))))
	s.is(l)
}

// TestUnknownWatch: a grant ahead of the id is none; a ToldWatch of another place or kind, or of the id 0, does not say it.
func TestUnknownWatch(t *testing.T) {
	eachWatch(t, unknown, func(t *testing.T, s standing, w api.Wish) {
		l := s.live(t)
		for _, id := range append(someNumbers(), 0) {
			s.isNoGrant(l, id)
		}
		for _, x := range []api.Told{
			watched(7, w.Place+"a", w.Watch), watched(7, "", w.Watch), watched(7, "/", w.Watch), watched(7, w.Place+"/", w.Watch), watched(7, own(s.kind), w.Watch),
			watched(7, w.Place, 0), watched(7, w.Place, w.Watch%3+1), watched(7, w.Place, (w.Watch+1)%3+1), watched(7, w.Place, w.Watch+1<<32), watched(0, w.Place, w.Watch),
		} {
			l.hears(x)
			s.isNoGrant(l, 0)
			s.isNoGrant(l, 7)
		}
		l.hears(watched(8, w.Place, w.Watch))
		s.isNoGrant(l, 7)
		s.isGranted(l, 8)
	})
}

// TestFirstId: the first ToldWatch that is right says the id, whatever it is; a second one says nothing.
func TestFirstId(t *testing.T) {
	eachWatch(t, unknown, func(t *testing.T, s standing, w api.Wish) {
		for _, first := range someNumbers() {
			l := s.live(t)
			l.hears(watched(first, w.Place, w.Watch))
			for _, second := range append(someNumbers(), 0) {
				if second != first {
					l.hears(watched(second, w.Place, w.Watch))
					s.isNoGrant(l, second)
				}
			}
			s.isGranted(l, first)
		}
	})
}

// TestItemsAheadOfGrant: an item ahead of the grant turns nothing, also if it has the id.
func TestItemsAheadOfGrant(t *testing.T) {
	eachWatch(t, known, func(t *testing.T, s standing, w api.Wish) {
		p, _, _ := s.wakes(1)
		for _, item := range []api.Item{
			marker(p.stamp, api.Part{Id: 1, Shot: shotOf(p.stamp, w.Place, w.Watch, p.nodes...)}), event(8, makesNode(two(s.kind), "", 1)), event(8, dropsNode(two(s.kind), 1)), event(8, makesNode(own(s.kind), "", 1)), event(8), marker(8),
		} {
			l := s.live(t)
			l.hears(taken(item))
			s.is(l)
			a := aside(s.kind)
			l.hears(granted(1, shotOf(a.stamp, w.Place, w.Watch, a.nodes...)))
			held := s.held
			if s.kind == api.JobElect {
				held.Values = []string{"you"}
			}
			s := s
			s.held = held
			s.is(l)
		}
	})
}

// TestRefusedWatch: a watch that is refused is none any more: it is not given up, and no item is heard of it.
func TestRefusedWatch(t *testing.T) {
	eachWatch(t, known, func(t *testing.T, s standing, w api.Wish) {
		for _, code := range allCodes() {
			if code == api.OK {
				continue
			}
			l := s.live(t)
			held, wishes := s.lostBy(l, code)
			x := refused(1, w.Place, w.Watch, code)
			p, _, _ := s.wakes(1)
			x.Part = api.Part{Id: 1, Shot: shotOf(p.stamp, w.Place, w.Watch, p.nodes...)}
			l.hears(x, wishes[1:]...)
			s.isLostNow(l, held)
		}
	})
}

// TestOtherItems: items without the id, among the tags or as a part's, turn nothing.
func TestOtherItems(t *testing.T) {
	eachWatch(t, seeing, func(t *testing.T, s standing, w api.Wish) {
		l := s.live(t)
		p, _, _ := s.wakes(1)
		full := shotOf(p.stamp, w.Place, w.Watch, p.nodes...)
		for _, ids := range [][]int{nil, {}, {0}, {2}, {-1}, {2, 3}, {0, 2}, {1 << 32}, {1<<32 + 1}} {
			l.hears(taken(event(30, dropsNode(two(s.kind), ids...), makesNode(two(s.kind), "", ids...), dropsNode(own(s.kind), ids...))))
			var parts []api.Part
			for _, id := range ids {
				parts = append(parts, api.Part{Id: id, Shot: full})
			}
			l.hears(taken(marker(30, parts...)))
			s.is(l)
		}
		l.hears(api.Told{Kind: api.ToldItem, Stamp: 30, Watch: api.Watch{Id: 1}, Part: api.Part{Id: 1, Shot: full}})
		s.is(l)
	})
}

// seer is an election whose watch, with the id 5, was granted at 6: it shows whatever is at the place of the first one.
func seer(t *testing.T) *life {
	l := born(t, jobOf(api.JobElect))
	entered(l)
	l.id = 4
	l.sees(6, seen("/l", "", "/l/vote-00001", "a", "/l/vote-00002", "b", "/l/vote-00003", "me"))
	l.shows(api.HeldWaiting, "/l/vote-00003", 0, api.OK, "a")
	return l
}

// TestEvents: an event turns the picture by those changes alone that have the id, in their order; one that Fold refuses leaves it as it was.
func TestEvents(t *testing.T) {
	for _, c := range []struct {
		item api.Item
		want string
	}{
		{event(7, setsNode("/l/vote-00001", "c", 1, 5)), "c"},
		{event(7, setsNode("/l/vote-00001", "c", 1, 4, 5, 6)), "c"},
		{event(7, setsNode("/l/vote-00001", "c", 1, 5, 9)), "c"},
		{event(7, setsNode("/l/vote-00001", "c", 1, 5), setsNode("/l/vote-00001", "d", 2, 5)), "d"},
		{event(7, setsNode("/l/vote-00001", "c", 1, 5), setsNode("/l/vote-00001", "d", 2, 4)), "c"},
		{event(7, dropsNode("/l/vote-00001", 5)), "b"},
		{event(7, dropsNode("/l/vote-00001", 5), setsNode("/l/vote-00002", "c", 1, 5), makesNode("/l/vote-00000", "0", 5)), "0"},
		{event(7, dropsNode("/l/vote-00001", 5), makesNode("/l/vote-00001", "new", 5)), "new"},
		{event(7, makesNode("/m", "x", 4), dropsNode("/l/vote-00001", 4, 5)), "b"},
		// Refused: a node that is there is made, one that is not is set or dropped, the stamp does not rise.
		{event(7, setsNode("/l/vote-00001", "c", 1, 5), makesNode("/l/vote-00002", "", 5)), "a"},
		{event(7, setsNode("/l/vote-00001", "c", 1, 5), setsNode("/l/vote-00009", "", 1, 5)), "a"},
		{event(7, setsNode("/l/vote-00001", "c", 1, 5), dropsNode("/l", 5)), "a"},
		{event(7, setsNode("/l/vote-00001", "c", -1, 5)), "a"},
		{event(7, setsNode("/l/vote-00001", "c", 1, 5), makesNode("no place", "", 5)), "a"},
		{event(6, setsNode("/l/vote-00001", "c", 1, 5)), "a"},
		{event(0, setsNode("/l/vote-00001", "c", 1, 5)), "a"},
		{event(-1, setsNode("/l/vote-00001", "c", 1, 5)), "a"},
		{event(api.MaxNumber+1, setsNode("/l/vote-00001", "c", 1, 5)), "a"},
		{event(api.MaxNumber, setsNode("/l/vote-00001", "c", 1, 5)), "c"},
		{event(1000, setsNode("/l/vote-00001", "c", 1, 5)), "c"},
	} {
		l := seer(t)
		l.hears(taken(c.item))
		l.shows(api.HeldWaiting, "/l/vote-00003", 0, api.OK, c.want)
	}
}

// TestFoldGoesOn: behind an event that Fold refused the picture has its old stamp, and is turned by the next one.
func TestFoldGoesOn(t *testing.T) {
	l := seer(t)
	l.hears(taken(event(20, dropsNode("/l/vote-00009", 5))))
	// Nor does an item without the id bring it on.
	l.hears(taken(event(21)))
	l.hears(taken(event(22, setsNode("/l/vote-00001", "no", 1, 4), dropsNode("/l/vote-00002", 6))))
	l.hears(taken(marker(23, api.Part{Id: 4, Shot: shotOf(23, "/l", api.WatchSubtree)})))
	l.hears(taken(event(7, setsNode("/l/vote-00001", "c", 1, 5))))
	l.shows(api.HeldWaiting, "/l/vote-00003", 0, api.OK, "c")
	l.hears(taken(event(7, setsNode("/l/vote-00001", "d", 2, 5))))
	l.shows(api.HeldWaiting, "/l/vote-00003", 0, api.OK, "c")
	l.hears(taken(event(8, dropsNode("/l/vote-00001", 5))))
	l.hears(taken(event(9, dropsNode("/l/vote-00002", 5))))
	l.shows(api.HeldIn, "/l/vote-00003", 9, api.OK, "me")
}

// TestMarkers: a marker puts the part with the id in the place of the picture, whatever its stamp is.
func TestMarkers(t *testing.T) {
	other := func(id int) api.Part {
		return api.Part{Id: id, Shot: shotOf(9, "/l", api.WatchSubtree, seen("/l", "", "/l/vote-00001", "no", "/l/vote-00003", "me")...)}
	}
	for _, stamp := range []int{0, 5, 6, 7, 9, api.MaxNumber} {
		its := api.Part{Id: 5, Shot: shotOf(stamp, "/l", api.WatchSubtree, seen("/l", "", "/l/vote-00002", "z", "/l/vote-00003", "me")...)}
		for _, item := range []api.Item{marker(9, its), marker(9, other(4), its), marker(9, its, other(6)), marker(9, other(3), other(4), its, other(6))} {
			l := seer(t)
			l.hears(taken(item))
			l.shows(api.HeldWaiting, "/l/vote-00003", 0, api.OK, "z")
			if stamp == api.MaxNumber {
				continue
			}
			l.hears(taken(event(stamp, dropsNode("/l/vote-00002", 5))))
			l.shows(api.HeldWaiting, "/l/vote-00003", 0, api.OK, "z")
			l.hears(taken(event(stamp+1, dropsNode("/l/vote-00002", 5))))
			l.shows(api.HeldIn, "/l/vote-00003", stamp+1, api.OK, "me")
		}
	}
}

// TestGrantOnce: a watch is granted once; what is said of the same id behind that is not heard.
func TestGrantOnce(t *testing.T) {
	l := seer(t)
	l.hears(granted(5, shotOf(9, "/l", api.WatchSubtree, seen("/l", "", "/l/vote-00003", "me")...)))
	l.hears(refused(5, "/l", api.WatchSubtree, api.ErrFull))
	l.shows(api.HeldWaiting, "/l/vote-00003", 0, api.OK, "a")
}

// TestGivenUpLater: a watch of which the id is not known as yet is given up as soon as it is told: in the phases asking and done; once, and by its place and kind alone.
func TestGivenUpLater(t *testing.T) {
	eachWatch(t, unknown, func(t *testing.T, s standing, w api.Wish) {
		for _, isDone := range []bool{false, true} {
			l, now := s.live(t), s
			l.leaves(now.leave(l)...)
			if isDone && isBrief(s.kind) {
				l.asked(results(40, api.Result{}))
				now.leftAnswer(results(40, api.Result{}))
			}
			now.is(l)
			for _, x := range []api.Told{watched(5, w.Place+"a", w.Watch), watched(5, "/", w.Watch), watched(5, w.Place, w.Watch%3+1), watched(5, w.Place, 0), granted(5, shotOf(9, w.Place, w.Watch, bare("/l")...)), refused(5, w.Place, w.Watch, api.ErrFull)} {
				l.hears(x)
			}
			l.begins()
			l.leaves()
			l.hears(watched(6, w.Place, w.Watch), unwatches(6))
			l.hears(watched(7, w.Place, w.Watch))
			l.hears(watched(6, w.Place, w.Watch))
			l.hears(granted(6, shotOf(9, w.Place, w.Watch, bare("/l")...)))
			now.is(l)
		}
	})
}

// TestForgottenAtEnd: ToldEnd and ToldGone forget the watch that is to be given up, also when the machine is done.
func TestForgottenAtEnd(t *testing.T) {
	eachWatch(t, unknown, func(t *testing.T, s standing, w api.Wish) {
		for _, kind := range []int{api.ToldEnd, api.ToldGone} {
			for _, isDone := range []bool{false, true} {
				l, now := s.live(t), s
				l.leaves(now.leave(l)...)
				if isDone && isBrief(s.kind) {
					l.asked(results(40, api.Result{}))
				}
				before := l.m.Sight()
				l.hears(told(kind))
				l.hears(watched(6, w.Place, w.Watch))
				if isDone && !same(l.m.Sight(), before) {
					t.Errorf("a machine that is done shows %+v behind the end, and %+v ahead of it", l.m.Sight(), before)
				}
			}
		}
	})
}
