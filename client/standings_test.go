package client_test

import (
	"testing"

	"herald/api"
)

// standing is how a client of the number 2 with three nodes may stand, and what is to be known of it.
type standing struct {
	name           string
	life           func(t *testing.T) *life
	phase          string // none, opening, open, ending
	session        int
	next           int // the session that would be begun next
	primary        int
	conn, last     int
	requests       int
	pending        []api.Op // nil: none is
	resumed        bool
	asked, leaving []api.Watch
	granted        []api.Part
	highest        int // id of a watch
	viewNum        int
}

// asks are the asks of a client that stands so, each behind its address; as the chapter's list has them.
func (s standing) asks() []any {
	var list []any
	ask := func(n api.Note) { list = append(list, s.primary, n) }
	switch s.phase {
	case "opening":
		ask(opens(s.session))
	case "ending":
		ask(closes(s.session))
	case "open":
		if !s.resumed {
			ask(s.resume(s.conn))
		}
		if s.pending != nil {
			ask(calls(s.session, s.requests, s.pending...))
		}
		if s.resumed {
			list = append(list, s.moves()...)
		}
	}
	return list
}

func (s standing) resume(conn int) api.Note {
	n := resumes(s.session, conn, s.last)
	for _, p := range s.granted {
		n.Watches = append(n.Watches, watch(p.Id, p.Shot.Place, p.Shot.Kind, p.Shot.Stamp))
	}
	return n
}

// moves are the notes by which watches that are asked, or leaving, get on.
func (s standing) moves() []any {
	var list []any
	for id := range s.highest + 1 {
		for _, w := range s.asked {
			if w.Id == id {
				list = append(list, s.primary, watches(s.session, s.conn, w))
			}
		}
		for _, w := range s.leaving {
			if w.Id == id {
				list = append(list, s.primary, unwatches(s.session, s.conn, id))
			}
		}
	}
	return list
}

// anew are the asks by a new connection.
func (s standing) anew() []any {
	s.conn++
	s.resumed = false
	return s.asks()
}

// as holds that a client stands so.
func (s standing) holds(l *life) {
	l.t.Helper()
	l.shows(s.session, s.last, s.granted...)
	tick := []any{0, asks()}
	if s.phase == "open" {
		tick = append(tick, s.primary, beats(s.session, s.conn))
	}
	l.ticks(append(tick, s.asks()...)...)
}

// The ways to these standings:

func opening(t *testing.T) *life {
	l := born(t, 2, 3)
	l.begins(told(api.ToldBegin, 2), 1, opens(2))
	return l
}

func openedNow(t *testing.T) *life {
	l := opening(t)
	l.takes(1, opened(1, 2, api.OK), told(api.ToldBegun, 2), 1, resumes(2, 1, 0))
	return l
}

func resumedNow(t *testing.T) *life {
	l := openedNow(t)
	l.takes(1, resumed(1, 2, 1, 0, api.OK))
	return l
}

// pictureOf is the part of a watch as it is granted in these tests.
func pictureOf(id, stamp int) api.Part {
	return part(id, stamp, "/a", api.WatchSubtree, seen("/a", "x", 2), seen("/a/b", "", 0))
}

// busy has four watches: 1 and 4 are granted at the stamp 5, 2 is leaving, 3 is asked.
func busy(t *testing.T) *life {
	l := resumedNow(t)
	l.watches("/a", api.WatchSubtree, toldOf(api.ToldWatch, 2, watch(1, "/a", api.WatchSubtree, 0)), 1, watches(2, 1, watch(1, "/a", api.WatchSubtree, 0)))
	l.watches("/b", api.WatchKids, toldOf(api.ToldWatch, 2, watch(2, "/b", api.WatchKids, 0)), 1, watches(2, 1, watch(2, "/b", api.WatchKids, 0)))
	l.watches("/c", api.WatchNode, toldOf(api.ToldWatch, 2, watch(3, "/c", api.WatchNode, 0)), 1, watches(2, 1, watch(3, "/c", api.WatchNode, 0)))
	l.watches("/", api.WatchKids, toldOf(api.ToldWatch, 2, watch(4, "/", api.WatchKids, 0)), 1, watches(2, 1, watch(4, "/", api.WatchKids, 0)))
	l.takes(1, watched(1, 2, 1, pictureOf(1, 5)), toldGranted(2, pictureOf(1, 5)), 1, resumes(2, 2, 0, watch(1, "/a", api.WatchSubtree, 5)))
	root := part(4, 5, "/", api.WatchKids, seen("/", "", 0), seen("/a", "", 0))
	l.takes(1, watched(1, 2, 2, root), toldGranted(2, root), 1, resumes(2, 3, 0, watch(1, "/a", api.WatchSubtree, 5), watch(4, "/", api.WatchKids, 5)))
	l.unwatches(2, toldOf(api.ToldUnwatch, 2, watch(2, "/b", api.WatchKids, 0)))
	return l
}

// busyResumed has taken the stamp 6, too.
func busyResumed(t *testing.T) *life {
	l := busy(t)
	l.takes(1, resumed(1, 2, 3, 5, api.OK), 1, unwatches(2, 3, 2), 1, watches(2, 3, watch(3, "/c", api.WatchNode, 0)))
	item := event(6, 0, set("/a", "y", 3, 1))
	l.takes(1, delivers(1, 2, 3, []int{1, 4}, item), toldItem(2, item), 1, took(2, 3, 6))
	return l
}

func standings() []standing {
	granted := func(stamp int, data string, version int) []api.Part {
		return []api.Part{
			part(1, stamp, "/a", api.WatchSubtree, seen("/a", data, version), seen("/a/b", "", 0)),
			part(4, stamp, "/", api.WatchKids, seen("/", "", 0), seen("/a", "", 0)),
		}
	}
	ops := []api.Op{gets("/a"), sets("/b", "z")}
	asking := func(l *life, primary int) *life {
		l.calls(ops, toldCall(2, 1, ops...), primary, calls(2, 1, ops...))
		return l
	}
	fresh := standing{name: "fresh", life: func(t *testing.T) *life { return born(t, 2, 3) }, phase: "none", next: 2, primary: 1}
	left := standing{name: "gone", phase: "none", next: 18, primary: 1, conn: 1, life: func(t *testing.T) *life {
		l := openedNow(t)
		l.takes(1, gone(1, 2), toldGone(2, api.OK))
		return l
	}}
	unopened := standing{name: "refused", phase: "none", next: 18, primary: 1, life: func(t *testing.T) *life {
		l := opening(t)
		l.takes(1, opened(1, 2, api.ErrOld), toldGone(2, api.ErrOld))
		return l
	}}
	first := standing{name: "opening", life: opening, phase: "opening", session: 2, next: 18, primary: 1}
	second := standing{name: "opening for a second time", phase: "opening", session: 18, next: 34, primary: 3, viewNum: 2, conn: 3, highest: 4, life: func(t *testing.T) *life {
		l := busyResumed(t)
		l.ends(told(api.ToldEnd, 2), 1, closes(2))
		l.takes(0, tells(2, 3, 0), 3, closes(2))
		l.begins(told(api.ToldBegin, 18), 3, opens(18))
		return l
	}}
	plain := standing{name: "open", life: openedNow, phase: "open", session: 2, next: 18, primary: 1, conn: 1}
	plainPending := plain
	plainPending.name, plainPending.pending, plainPending.requests = "open, pending", ops, 1
	plainPending.life = func(t *testing.T) *life { return asking(openedNow(t), 1) }
	through := plain
	through.name, through.resumed, through.life = "resumed", true, resumedNow
	throughPending := plainPending
	throughPending.name, throughPending.resumed = "resumed, pending", true
	throughPending.life = func(t *testing.T) *life { return asking(resumedNow(t), 1) }
	many := plain
	many.name, many.life, many.conn, many.highest = "open with watches", busy, 3, 4
	many.asked, many.leaving, many.granted = []api.Watch{watch(3, "/c", api.WatchNode, 0)}, []api.Watch{watch(2, "/b", api.WatchKids, 0)}, granted(5, "x", 2)
	manyPending := many
	manyPending.name, manyPending.pending, manyPending.requests = "open with watches, pending", ops, 1
	manyPending.life = func(t *testing.T) *life { return asking(busy(t), 1) }
	manyThrough := many
	manyThrough.name, manyThrough.resumed, manyThrough.life = "resumed with watches", true, busyResumed
	manyThrough.last, manyThrough.granted = 6, granted(6, "y", 3)
	all := manyThrough
	all.name, all.pending, all.requests = "resumed with watches, pending", ops, 1
	all.life = func(t *testing.T) *life { return asking(busyResumed(t), 1) }
	moved := all
	moved.name, moved.resumed, moved.primary, moved.viewNum, moved.conn = "at another view", false, 3, 4, 4
	moved.life = func(t *testing.T) *life {
		l := asking(busyResumed(t), 1)
		n := resumes(2, 4, 6, watch(1, "/a", api.WatchSubtree, 6), watch(4, "/", api.WatchKids, 6))
		l.takes(0, tells(4, 3, 1), 3, n, 3, calls(2, 1, ops...))
		return l
	}
	answered := manyThrough
	answered.name, answered.requests = "answered", 1
	answered.life = func(t *testing.T) *life {
		l := asking(busyResumed(t), 1)
		l.takes(1, answers(1, 2, 1, api.Reply{Stamp: 8}), toldReply(2, 1, api.Reply{Stamp: 8}))
		return l
	}
	unbegun := standing{name: "ending ahead of being open", phase: "ending", session: 2, next: 18, primary: 1, life: func(t *testing.T) *life {
		l := opening(t)
		l.ends(told(api.ToldEnd, 2), 1, closes(2))
		return l
	}}
	ending := standing{name: "ending", phase: "ending", session: 2, next: 18, primary: 1, conn: 3, last: 6, highest: 4, life: func(t *testing.T) *life {
		l := asking(busyResumed(t), 1)
		l.ends(told(api.ToldEnd, 2), 1, closes(2))
		return l
	}}
	return []standing{fresh, left, unopened, first, second, plain, plainPending, through, throughPending, many, manyPending, manyThrough, all, moved, answered, unbegun, ending}
}

// eachStanding looks at a new client of each standing.
func eachStanding(t *testing.T, look func(t *testing.T, s standing, l *life)) {
	t.Helper()
	for _, s := range standings() {
		if s.viewNum == 0 {
			s.viewNum = 1
		}
		t.Run(s.name, func(t *testing.T) {
			look(t, s, s.life(t))
		})
	}
}

// TestStandings: P15.7 and P15.10, what is known of a standing is what Tick sends, and what Session and Pictures say; and none of these calls changes anything.
func TestStandings(t *testing.T) {
	eachStanding(t, func(t *testing.T, s standing, l *life) {
		s.holds(l)
		s.holds(l)
	})
}
