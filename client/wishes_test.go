package client_test

import (
	"slices"
	"strings"
	"testing"

	"herald/api"
)

// TestBegin: P15.2, in every standing.
func TestBegin(t *testing.T) {
	eachStanding(t, func(t *testing.T, s standing, l *life) {
		if s.phase == "opening" || s.phase == "open" {
			l.begins(api.ErrClient)
			s.holds(l)
			return
		}
		l.begins(told(api.ToldBegin, s.next), s.primary, opens(s.next))
		standing{phase: "opening", session: s.next, primary: s.primary, conn: s.conn}.holds(l)
	})
}

// TestBeginAnew: P15.2, nothing of the session ahead is left: neither its requests, watches and last stamp, nor what comes for it.
func TestBeginAnew(t *testing.T) {
	l := busyResumed(t)
	l.calls(nil, toldCall(2, 1), 1, calls(2, 1))
	l.ends(told(api.ToldEnd, 2), 1, closes(2))
	l.begins(told(api.ToldBegin, 18), 1, opens(18))
	l.takes(1, gone(1, 2))
	l.takes(1, opened(1, 2, api.OK))
	l.takes(1, opened(1, 18, api.OK), told(api.ToldBegun, 18), 1, resumes(18, 4, 0))
	l.shows(18, 0)
	l.takes(1, answers(1, 18, 1, api.Reply{Stamp: 9}))
	l.calls(nil, toldCall(18, 1), 1, calls(18, 1))
	l.takes(1, answers(1, 2, 1, api.Reply{Stamp: 9}))
	l.watches("/a", api.WatchNode, toldOf(api.ToldWatch, 18, watch(5, "/a", api.WatchNode, 0)))
	for id := 1; id <= 4; id++ {
		l.unwatches(id, api.ErrClient)
	}
	l.takes(1, gone(1, 18), toldGone(18, api.OK))
	l.begins(told(api.ToldBegin, 34), 1, opens(34))
	l.takes(1, opened(1, 34, api.ErrOld), toldGone(34, api.ErrOld))
	l.begins(told(api.ToldBegin, 50), 1, opens(50))
}

// TestSessionsEnd: P15.2 and W7, the last number of a session is the last one that is not above MaxNumber, for every client.
func TestSessionsEnd(t *testing.T) {
	for number := 1; number <= api.MaxClients; number++ {
		for _, isEnding := range []bool{false, true} {
			begun := (most - number) / api.MaxSlots
			last := number + begun*api.MaxSlots
			l := born(t, number, 3)
			if isEnding {
				l.begins(told(api.ToldBegin, number), 1, opens(number))
				l.ends(told(api.ToldEnd, number), 1, closes(number))
			}
			l.c.Age(0, begun, 0, 0)
			l.begins(told(api.ToldBegin, last), 1, opens(last))
			l.begins(api.ErrClient)
			l.ends(told(api.ToldEnd, last), 1, closes(last))
			l.begins(api.ErrNumber)
			l.shows(last, 0)
			l.ticks(0, asks(), 1, closes(last))
			l.takes(1, gone(1, last), toldGone(last, api.OK))
			l.begins(api.ErrNumber)
			l.shows(0, 0)
			l.ticks(0, asks())
		}
	}
}

// TestDo: P15.3, in every standing.
func TestDo(t *testing.T) {
	long := api.Op{Kind: most, Place: strings.Repeat("p", api.MaxRaw), Data: strings.Repeat("\xff", api.MaxRaw), Version: most, Flags: most}
	for _, ops := range [][]api.Op{nil, {gets("/x")}, {{Version: -1}, {Place: "no place"}, {}, sets("/", "")}, {long, long, long, long}} {
		eachStanding(t, func(t *testing.T, s standing, l *life) {
			if s.phase != "open" || s.pending != nil {
				l.calls(ops, api.ErrClient)
				s.holds(l)
				return
			}
			s.requests++
			l.calls(ops, toldCall(2, s.requests, ops...), s.primary, calls(2, s.requests, ops...))
			s.pending = append([]api.Op{}, ops...)
			s.holds(l)
			l.calls(ops, api.ErrClient)
			l.takes(1, answers(s.viewNum, 2, s.requests, api.Reply{}), toldReply(2, s.requests, api.Reply{}))
			l.calls(ops, toldCall(2, s.requests+1, ops...), s.primary, calls(2, s.requests+1, ops...))
		})
	}
}

// TestDoRefused: P15.3, what is wrong with ops comes ahead of how the client stands: first what is too long, in whichever op, then numbers.
func TestDoRefused(t *testing.T) {
	text := strings.Repeat("p", api.MaxRaw+1)
	fine := api.Op{Kind: api.OpGet, Place: "/", Version: -1}
	wrong := []api.Op{{Kind: -1}, {Kind: most + 1}, {Flags: -1}, {Flags: most + 1}, {Version: -2}, {Version: most + 1}}
	long := []api.Op{{Place: text}, {Data: text}, {Place: text, Kind: -1}, {Data: text + text, Version: -2}}
	for _, number := range ends() {
		if number < -1 || number > most {
			wrong = append(wrong, api.Op{Version: number})
		}
		if number < 0 || number > most {
			wrong = append(wrong, api.Op{Kind: number}, api.Op{Flags: number})
		}
	}
	eachStanding(t, func(t *testing.T, s standing, l *life) {
		for at := range api.MaxOps {
			ops := slices.Repeat([]api.Op{fine}, api.MaxOps)
			for _, o := range wrong {
				ops[at] = o
				l.calls(ops, api.ErrArg)
				l.calls(ops[:at+1], api.ErrArg)
				l.calls(append(ops[:at+1:at+1], long[0]), api.ErrLong)
				l.calls(slices.Concat([]api.Op{long[1]}, ops)[:max(1, at)], api.ErrLong)
				l.calls(append(slices.Clone(ops), fine), api.ErrLong)
			}
			for _, o := range long {
				ops[at] = o
				l.calls(ops, api.ErrLong)
			}
		}
		l.calls(slices.Repeat([]api.Op{fine}, api.MaxOps+1), api.ErrLong)
		l.calls(make([]api.Op, 100), api.ErrLong)
		s.holds(l)
	})
}

// TestRequestsEnd: P15.3 and W7, behind the request MaxNumber there is no other; that one is pending comes ahead of it.
func TestRequestsEnd(t *testing.T) {
	l := resumedNow(t)
	l.c.Age(1, 1, 0, most-1)
	l.calls(nil, toldCall(2, most), 1, calls(2, most))
	l.calls(nil, api.ErrClient)
	l.takes(1, answers(1, 2, most-1, api.Reply{}))
	l.takes(1, answers(1, 2, most, api.Reply{}), toldReply(2, most, api.Reply{}))
	l.calls(nil, api.ErrNumber)
	l.calls([]api.Op{{Kind: -1}}, api.ErrArg)
	l.ticks(0, asks(), 1, beats(2, 1))
	l.ends(told(api.ToldEnd, 2), 1, closes(2))
	l.calls(nil, api.ErrClient)
}

// TestWatch: P15.4, in every standing: a watch of each kind.
func TestWatch(t *testing.T) {
	for kind := api.WatchNode; kind <= api.WatchSubtree; kind++ {
		eachStanding(t, func(t *testing.T, s standing, l *life) {
			if s.phase != "open" {
				l.watches("/p/q", kind, api.ErrClient)
				s.holds(l)
				return
			}
			if len(s.asked)+len(s.leaving)+len(s.granted) == api.MaxWatches {
				l.watches("/p/q", kind, api.ErrFull)
				s.holds(l)
				return
			}
			s.highest++
			w := watch(s.highest, "/p/q", kind, 0)
			want := []any{toldOf(api.ToldWatch, 2, w)}
			if s.resumed {
				want = append(want, s.primary, watches(2, s.conn, w))
			}
			l.watches("/p/q", kind, want...)
			s.asked = append(s.asked, w)
			s.holds(l)
		})
	}
}

// TestWatchRefused: P15.4, in its order: the place, the kind, the client, how many there are, their numbers.
func TestWatchRefused(t *testing.T) {
	wrong := []string{"", "a", "a/b", "//", "/a/", "/a b", "/.", "/..", "/a/b/c/d/e/f/g", "/" + strings.Repeat("n", api.MaxName+1), strings.Repeat("/", api.MaxPlace+1), strings.Repeat("/a", 1000)}
	eachStanding(t, func(t *testing.T, s standing, l *life) {
		for _, place := range wrong {
			for _, kind := range append(ends(), 2, 3) {
				l.watches(place, kind, api.ErrPlace)
			}
		}
		for _, kind := range ends() {
			if kind < 1 || kind > 3 {
				l.watches("/a", kind, api.ErrArg)
			}
		}
		s.holds(l)
	})
}

// TestWatchesAreFull: P15.4, with MaxWatches watches, whether they are asked, granted or leaving; and there is room again when one is gone. The id of one that is gone, or was refused, isn't given again, nor is that of another session.
func TestWatchesAreFull(t *testing.T) {
	l := openedNow(t)
	for id := 1; id <= api.MaxWatches; id++ {
		l.watches("/a", api.WatchNode, toldOf(api.ToldWatch, 2, watch(id, "/a", api.WatchNode, 0)))
	}
	full := func() { l.t.Helper(); l.watches("/a", api.WatchNode, api.ErrFull) }
	full()
	l.c.Age(1, 1, most, 0)
	full()
	l.c.Age(1, 1, 4, 0)
	l.unwatches(3, toldOf(api.ToldUnwatch, 2, watch(3, "/a", api.WatchNode, 0)))
	full()
	l.takes(1, watched(1, 2, 1, part(2, 5, "/a", api.WatchNode)), toldGranted(2, part(2, 5, "/a", api.WatchNode)), 1, resumes(2, 2, 0, watch(2, "/a", api.WatchNode, 5)))
	full()
	l.takes(1, unwatched(1, 2, 2, 3), 1, resumes(2, 3, 0, watch(2, "/a", api.WatchNode, 5)))
	l.watches("/a", api.WatchNode, toldOf(api.ToldWatch, 2, watch(5, "/a", api.WatchNode, 0)))
	full()
	l.takes(1, refused(1, 2, 3, 5, api.ErrFull), toldRefused(2, watch(5, "/a", api.WatchNode, 0), api.ErrFull))
	l.watches("/a", api.WatchNode, toldOf(api.ToldWatch, 2, watch(6, "/a", api.WatchNode, 0)))
	full()
	l.takes(1, gone(1, 2), toldGone(2, api.OK))
	l.begins(told(api.ToldBegin, 18), 1, opens(18))
	l.takes(1, opened(1, 18, api.OK), told(api.ToldBegun, 18), 1, resumes(18, 4, 0))
	l.watches("/a", api.WatchNode, toldOf(api.ToldWatch, 18, watch(7, "/a", api.WatchNode, 0)))
}

// TestWatchIdsEnd: P15.4 and W7, behind the id MaxNumber there is no other.
func TestWatchIdsEnd(t *testing.T) {
	l := resumedNow(t)
	l.c.Age(1, 1, most-1, 0)
	w := watch(most, "/a", api.WatchNode, 0)
	l.watches("/a", api.WatchNode, toldOf(api.ToldWatch, 2, w), 1, watches(2, 1, w))
	l.watches("/a", api.WatchNode, api.ErrNumber)
	l.watches("/a", 0, api.ErrArg)
	l.ticks(0, asks(), 1, beats(2, 1), 1, watches(2, 1, w))
	l.unwatches(most, toldOf(api.ToldUnwatch, 2, w), 1, unwatches(2, 1, most))
}

// TestUnwatch: P15.5, in every standing: of each watch that there is, and of ids that are none's.
func TestUnwatch(t *testing.T) {
	ids := append(ends(), 6, 17)
	for _, id := range ids {
		eachStanding(t, func(t *testing.T, s standing, l *life) {
			w, isThere := s.remove(id)
			if !isThere {
				l.unwatches(id, api.ErrClient)
				s.holds(l)
				return
			}
			want := []any{toldOf(api.ToldUnwatch, 2, w)}
			if s.resumed {
				want = append(want, s.primary, unwatches(2, s.conn, id))
			}
			l.unwatches(id, want...)
			s.leaving = append(s.leaving, w)
			s.holds(l)
			l.unwatches(id, api.ErrClient)
		})
	}
}

// remove takes the watch with an id off those that are asked or granted.
func (s *standing) remove(id int) (api.Watch, bool) {
	for i, w := range s.asked {
		if w.Id == id {
			s.asked = slices.Delete(slices.Clone(s.asked), i, i+1)
			return w, true
		}
	}
	for i, p := range s.granted {
		if p.Id == id {
			s.granted = slices.Delete(slices.Clone(s.granted), i, i+1)
			return watch(id, p.Shot.Place, p.Shot.Kind, 0), true
		}
	}
	return api.Watch{}, false
}

// TestEnd: P15.6, in every standing.
func TestEnd(t *testing.T) {
	eachStanding(t, func(t *testing.T, s standing, l *life) {
		if s.phase != "opening" && s.phase != "open" {
			l.ends(api.ErrClient)
			s.holds(l)
			return
		}
		l.ends(told(api.ToldEnd, s.session), s.primary, closes(s.session))
		standing{phase: "ending", session: s.session, primary: s.primary, last: s.last}.holds(l)
		l.ends(api.ErrClient)
		l.calls(nil, api.ErrClient)
		l.watches("/", api.WatchKids, api.ErrClient)
		for id := range 6 {
			l.unwatches(id, api.ErrClient)
		}
		l.takes(s.primary, answers(s.viewNum, s.session, max(1, s.requests), api.Reply{}))
	})
}
