package client_test

import (
	"slices"
	"testing"

	"herald/api"
	"herald/note"
)

// anybody is from where notes are sent whose sender is not looked at.
var anybody = []int{0, 1, 2, 3, 4, 5, 101, 102, 106}

// wrongs are a note with one thing turned that must be right: its session, its view and, where it has one, its connection.
func (s standing) wrongs(n api.Note) []api.Note {
	var list []api.Note
	turned := func(turn func(*api.Note)) {
		next := n
		turn(&next)
		list = append(list, next)
	}
	for _, session := range []int{1, 2, 3, 18, 34, s.session + 1, s.session + 16, most} {
		if session != s.session {
			turned(func(n *api.Note) { n.Session = session })
		}
	}
	for num := 1; num < s.viewNum; num++ {
		turned(func(n *api.Note) { n.View.Num = num })
	}
	for _, conn := range []int{1, 2, s.conn - 1, s.conn + 1, most} {
		if n.Conn != 0 && conn != n.Conn && conn > 0 {
			turned(func(n *api.Note) { n.Conn = conn })
		}
	}
	return list
}

// ignores holds that notes do nothing, whoever sends them.
func (s standing) ignores(l *life, notes ...api.Note) {
	l.t.Helper()
	for i, n := range notes {
		if note.Check(n) == api.OK { // of a client without a session there is no number that a note could have
			l.takes(anybody[i%len(anybody)], n)
		}
	}
	s.holds(l)
}

// eachTurn goes through all standings, with each view at and above the known one.
func eachTurn(t *testing.T, look func(t *testing.T, s standing, l *life, num, from int)) {
	t.Helper()
	for i, from := range anybody {
		eachStanding(t, func(t *testing.T, s standing, l *life) {
			num := []int{s.viewNum, s.viewNum + 1, most}[i%3]
			look(t, s, l, num, from)
		})
	}
}

// TestTakeView: P15.8, a view is taken over from the service or from a node, if it is a later one and its primary is a node.
func TestTakeView(t *testing.T) {
	for _, kind := range []int{api.NoteTell, api.NoteElsewhere} {
		for _, from := range anybody {
			for _, primary := range []int{0, 1, 3, 4, 102, most} {
				eachStanding(t, func(t *testing.T, s standing, l *life) {
					for num := range s.viewNum + 1 {
						l.takes(from, api.Note{Kind: kind, View: viewOf(num, 2, 1)})
					}
					s.holds(l)
					n := api.Note{Kind: kind, View: viewOf(s.viewNum+1, primary, pick(chanceOf(uint64(from), 1), 0, 1, 2, most))}
					isRight := kind == api.NoteTell && from == 0 || kind == api.NoteElsewhere && from >= 1 && from <= 3
					if !isRight || primary != 1 && primary != 3 {
						l.takes(from, n)
						s.holds(l)
						return
					}
					s.primary = primary
					if s.phase == "open" {
						s.conn++
						s.resumed = false
					}
					l.takes(from, n, s.asks()...)
					s.holds(l)
					l.takes(from, n)
					s.holds(l)
				})
			}
		}
	}
}

// TestTakeViewFar: P15.8, a view may be far above the one that is known; and of how many nodes a client knows, the primaries and senders are.
func TestTakeViewFar(t *testing.T) {
	for nodes := 1; nodes <= api.MaxPeers; nodes++ {
		for primary := range 8 {
			for from := 1; from <= api.MaxPeers; from++ {
				l := born(t, 1, nodes)
				l.begins(told(api.ToldBegin, 1), 1, opens(1))
				if primary < 1 || primary > nodes || from > nodes {
					l.takes(from, elsewhere(most, primary, 0))
					l.ticks(0, asks(), 1, opens(1))
					continue
				}
				l.takes(from, elsewhere(most, primary, 0), primary, opens(1))
				l.takes(0, tells(most, 1, 0))
				l.ticks(0, asks(), primary, opens(1))
				l.takes(from, opened(most-1, 1, api.OK))
				l.takes(from, opened(most, 1, api.OK), told(api.ToldBegun, 1), primary, resumes(1, 1, 0))
			}
		}
	}
}

// TestTakeOpened: P15.8.
func TestTakeOpened(t *testing.T) {
	eachTurn(t, func(t *testing.T, s standing, l *life, num, from int) {
		for _, code := range []api.Errno{api.OK, api.ErrArg, api.ErrOld, most} {
			l := s.life(t)
			n := opened(num, s.session, code)
			s.ignores(l, s.wrongs(n)...)
			if s.phase != "opening" {
				s.ignores(l, n)
				continue
			}
			if code != api.OK {
				l.takes(from, n, toldGone(s.session, code))
				standing{phase: "none", primary: s.primary}.holds(l)
				l.takes(from, n)
				continue
			}
			s := s
			s.phase, s.conn = "open", s.conn+1
			l.takes(from, n, told(api.ToldBegun, s.session), s.primary, resumes(s.session, s.conn, 0))
			s.holds(l)
			l.takes(from, n)
		}
	})
}

// TestTakeGone: P15.8.
func TestTakeGone(t *testing.T) {
	eachTurn(t, func(t *testing.T, s standing, l *life, num, from int) {
		n := gone(num, s.session)
		s.ignores(l, s.wrongs(n)...)
		if s.phase != "open" && s.phase != "ending" {
			s.ignores(l, n)
			return
		}
		l.takes(from, n, toldGone(s.session, api.OK))
		standing{phase: "none", primary: s.primary}.holds(l)
		l.takes(from, n)
		l.calls(nil, api.ErrClient)
		l.watches("/a", api.WatchNode, api.ErrClient)
		l.unwatches(1, api.ErrClient)
		l.ends(api.ErrClient)
		l.begins(told(api.ToldBegin, s.next), s.primary, opens(s.next))
	})
}

// TestTakeAnswer: P15.8, a reply is told as it came, once.
func TestTakeAnswer(t *testing.T) {
	replies := []api.Reply{
		{},
		{Stamp: 7, Code: api.ErrNoNode, At: 1},
		{Stamp: most, Results: []api.Result{{Place: "/a", Data: "data", Version: 3, Made: 4, Changed: 5, Owner: 2, Kids: []string{"kid", "other"}}, {}}},
	}
	for _, reply := range replies {
		eachTurn(t, func(t *testing.T, s standing, l *life, num, from int) {
			n := answers(num, s.session, max(1, s.requests), reply)
			s.ignores(l, s.wrongs(n)...)
			if s.pending == nil {
				s.ignores(l, n)
				return
			}
			s.ignores(l, answers(num, s.session, s.requests+1, reply), answers(num, s.session, most, reply))
			l.takes(from, n, toldReply(s.session, s.requests, reply))
			s.pending = nil
			s.holds(l)
			l.takes(from, n)
			l.calls(nil, toldCall(s.session, 2), s.primary, calls(s.session, 2))
			l.takes(from, n)
		})
	}
}

// TestTakeResumed: P15.8, both of its rows.
func TestTakeResumed(t *testing.T) {
	for _, stamp := range []int{0, 3, 6, most} {
		eachTurn(t, func(t *testing.T, s standing, l *life, num, from int) {
			right, wrong := resumed(num, s.session, max(1, s.conn), stamp, api.OK), resumed(num, s.session, max(1, s.conn), stamp, pick(chanceOf(uint64(from), 2), api.ErrSession, api.ErrArg, most))
			s.ignores(l, s.wrongs(right)...)
			s.ignores(l, s.wrongs(wrong)...)
			switch {
			case s.phase != "open":
				s.ignores(l, right, wrong)
			case s.resumed:
				s.ignores(l, right)
				l.takes(from, wrong, s.anew()...)
				s.resumed, s.conn = false, s.conn+1
				s.holds(l)
				s.ignores(l, right, wrong)
			default:
				s.ignores(l, wrong)
				l.takes(from, right, s.moves()...)
				s.resumed = true
				s.holds(l)
			}
		})
	}
}

// grants are shots for the watch 3 of /c, a node alone; whether they are right hangs on the last stamp alone.
func grants(stamp int) []api.Part {
	return []api.Part{
		part(3, stamp, "/c", api.WatchNode),
		part(3, stamp, "/c", api.WatchNode, seen("/c", "data", 4)),
	}
}

// misfits are shots that are none for it.
func misfits(stamp int) []api.Part {
	return []api.Part{
		part(3, stamp, "/", api.WatchNode, seen("/", "", 0)),
		part(3, stamp, "/c/d", api.WatchNode),
		part(3, stamp, "/b", api.WatchNode),
		part(3, stamp, "/c", api.WatchKids),
		part(3, stamp, "/c", api.WatchSubtree, seen("/c", "", 0)),
		part(3, stamp, "/c", api.WatchNode, seen("/c/d", "", 0)),
		part(3, stamp, "/c", api.WatchNode, seen("/c", "", 0), seen("/c", "", 0)),
		part(3, stamp, "/c", api.WatchNode, seen("/c", "", 0), seen("/c/d", "", 0)),
		part(1, stamp, "/c", api.WatchNode),
		part(2, stamp, "/c", api.WatchNode),
		part(2, stamp, "/b", api.WatchKids),
		part(4, stamp, "/", api.WatchKids, seen("/", "", 0)),
		part(5, stamp, "/c", api.WatchNode),
		part(most, stamp, "/c", api.WatchNode),
	}
}

// TestTakeWatched: P15.8, a grant.
func TestTakeWatched(t *testing.T) {
	t.Parallel()
	for _, stamp := range []int{0, 5, 6, most} {
		for _, p := range grants(stamp) {
			eachTurn(t, func(t *testing.T, s standing, l *life, num, from int) {
				conn := max(1, s.conn)
				n := watched(num, s.session, conn, p)
				n.Stamp = pick(chanceOf(uint64(from), 3), 0, stamp, most)
				s.ignores(l, s.wrongs(n)...)
				var wrong []api.Note
				for _, other := range misfits(stamp) {
					wrong = append(wrong, watched(num, s.session, conn, other))
				}
				s.ignores(l, wrong...)
				if len(s.asked) == 0 || stamp < s.last {
					s.ignores(l, n)
					return
				}
				s.asked = nil
				s.granted = append(slices.Clone(s.granted), p)
				slices.SortFunc(s.granted, func(a, b api.Part) int { return a.Id - b.Id })
				l.takes(from, n, append([]any{toldGranted(s.session, p)}, s.anew()...)...)
				s.conn, s.resumed = s.conn+1, false
				s.holds(l)
				again := watched(num, s.session, s.conn, p)
				s.ignores(l, n, again, refused(num, s.session, s.conn, 3, api.ErrFull))
			})
		}
	}
}

// TestTakeRefused: P15.8, a watch that isn't granted is gone; the connection stays.
func TestTakeRefused(t *testing.T) {
	for _, code := range []api.Errno{api.ErrArg, api.ErrFull, api.ErrSession, most} {
		eachTurn(t, func(t *testing.T, s standing, l *life, num, from int) {
			n := refused(num, s.session, max(1, s.conn), 3, code)
			n.Stamp = pick(chanceOf(uint64(from), 4), 0, 3, most)
			s.ignores(l, s.wrongs(n)...)
			for _, id := range []int{1, 2, 4, 5, most} {
				s.ignores(l, refused(num, s.session, max(1, s.conn), id, code))
			}
			if len(s.asked) == 0 {
				s.ignores(l, n)
				return
			}
			l.takes(from, n, toldRefused(s.session, s.asked[0], code))
			s.asked = nil
			s.holds(l)
			s.ignores(l, n, watched(num, s.session, s.conn, part(3, 7, "/c", api.WatchNode)))
			l.unwatches(3, api.ErrClient)
		})
	}
}

// TestTakeUnwatched: P15.8.
func TestTakeUnwatched(t *testing.T) {
	eachTurn(t, func(t *testing.T, s standing, l *life, num, from int) {
		n := unwatched(num, s.session, max(1, s.conn), 2)
		s.ignores(l, s.wrongs(n)...)
		for _, id := range []int{1, 3, 4, 5, most} {
			s.ignores(l, unwatched(num, s.session, max(1, s.conn), id))
		}
		if len(s.leaving) == 0 {
			s.ignores(l, n)
			return
		}
		s.leaving = nil
		l.takes(from, n, s.anew()...)
		s.conn, s.resumed = s.conn+1, false
		s.holds(l)
		s.ignores(l, n, unwatched(num, s.session, s.conn, 2))
	})
}

// TestTakeDeliver: P15.8, whether a delivery is looked at; what its items do, other tests hold.
func TestTakeDeliver(t *testing.T) {
	eachTurn(t, func(t *testing.T, s standing, l *life, num, from int) {
		item := event(9, s.last, dropped("/a/b", 1, 4))
		n := delivers(num, s.session, max(1, s.conn), []int{1, 4}, item)
		s.ignores(l, s.wrongs(n)...)
		if s.phase != "open" {
			s.ignores(l, n)
			return
		}
		want := []any{s.primary, took(s.session, s.conn, 9)}
		if len(s.granted) > 0 {
			want = append([]any{toldItem(s.session, item)}, want...)
			s.granted = []api.Part{
				part(1, 9, "/a", api.WatchSubtree, s.granted[0].Shot.Nodes[0]),
				part(4, 9, "/", api.WatchKids, seen("/", "", 0), seen("/a", "", 0)),
			}
		}
		l.takes(from, n, want...)
		s.last = 9
		s.holds(l)
	})
}

// TestConnectionsEnd: P15.8 and W7, a connection with the number MaxNumber stays when a new one is to be made; the client has to resume it all the same.
func TestConnectionsEnd(t *testing.T) {
	l := busyResumed(t)
	l.c.Age(most-1, 1, 4, 0)
	before, behind := watch(1, "/a", api.WatchSubtree, 6), watch(4, "/", api.WatchKids, 6)
	for num := 2; num <= 4; num++ {
		l.takes(0, tells(num, 1, 0), 1, resumes(2, most, 6, before, behind))
		l.takes(1, resumed(num, 2, most, 6, api.OK), 1, unwatches(2, most, 2), 1, watches(2, most, watch(3, "/c", api.WatchNode, 0)))
		l.ticks(0, asks(), 1, beats(2, most), 1, unwatches(2, most, 2), 1, watches(2, most, watch(3, "/c", api.WatchNode, 0)))
	}
	l.takes(1, delivers(4, 2, most, []int{1}, event(8, 6, made("/d", "", 4))), 1, resumes(2, most, 6, before, behind))
}

// TestTakeNothing: P15.8, a message to another address, one that isn't a note, and a note of another kind do nothing.
func TestTakeNothing(t *testing.T) {
	eachStanding(t, func(t *testing.T, s standing, l *life) {
		session, conn := max(1, s.session), max(1, s.conn)
		strong := []api.Note{
			tells(9, 3, 1), opened(9, session, api.OK), gone(9, session), answers(9, session, 1, api.Reply{}), resumed(9, session, conn, 0, api.OK), resumed(9, session, conn, 0, api.ErrSession),
			watched(9, session, conn, part(3, 9, "/c", api.WatchNode)), unwatched(9, session, conn, 2), delivers(9, session, conn, []int{1, 4}, event(9, s.last, dropped("/a/b", 1))),
		}
		for _, n := range strong {
			right := message(t, 0, 102, n)
			for _, to := range append(ends(), 101, 103, 106, 107, 100, -102) {
				m := right
				m.To = to
				l.does("P15.8: Take of what is for another one", quiet(l.c.Take(m)))
			}
			for _, from := range append(ends(), 6, 100, 107) {
				if from >= 0 && from <= api.MaxPeers {
					continue
				}
				m := right
				m.From = from
				l.does("P15.8: Take of what comes from nowhere", quiet(l.c.Take(m)))
			}
			for i := range right.Bytes {
				m, bytes := right, []byte(right.Bytes)
				bytes[i] ^= 1 << (i % 8)
				m.Bytes = string(bytes)
				l.does("P15.8: Take of what is spoilt", quiet(l.c.Take(m)))
				m.Bytes = right.Bytes[:i]
				l.does("P15.8: Take of what is torn", quiet(l.c.Take(m)))
			}
			l.does("P15.8: Take of too much", quiet(l.c.Take(api.Message{From: 0, To: 102, Bytes: right.Bytes + "x"})))
		}
		l.does("P15.8: Take of nothing", quiet(l.c.Take(api.Message{To: 102})))
		for _, n := range others(session, conn) {
			for _, from := range anybody {
				l.takes(from, n)
			}
		}
		s.holds(l)
	})
}

// others are notes of the kinds that a client has no use for.
func others(session, conn int) []api.Note {
	w := watch(2, "/c", api.WatchNode, 0)
	of := func(kind int) api.Note { return noteOf(kind, 9) }
	return []api.Note{
		asks(), opens(session), closes(session), beats(session, conn), calls(session, 1), resumes(session, conn, 0), watches(session, conn, w), unwatches(session, conn, 2), took(session, conn, 3),
		of(api.NoteJoin), of(api.NoteAppend), of(api.NoteAcked), of(api.NoteFull), of(api.NoteProbe), of(api.NoteSettled),
	}
}
