package node_test

import (
	"fmt"
	"strings"
	"testing"

	"herald/api"
	"herald/journal"
	"herald/node"
	"herald/state"
)

// TestExamples: the chapter's table.
func TestExamples(t *testing.T) {
	refuses(t, "two of one", 2, alone, nil, api.ErrArg)
	refuses(t, "no rules", 1, api.Rules{}, nil, api.ErrArg)
	s := start(t, 1, alone, nil)
	s.shows(api.View{}, false, 0, 0, 0)
	s.takes(102, opens(2), 102, elsewhere(api.View{}))
	s.ticks(0, asks())
	s.takes(0, tells(1, 1, 0), view(1, 1, 0), 0, settles(1))
	s.takes(102, calls(2, 1, gets("/")), 102, gone(1, 2))
	s.takes(102, opens(2), entry(1, 1, opening(2)), commit(1), 102, opened(1, 2, api.OK))
	s.takes(102, opens(2), 102, opened(1, 2, api.OK))
	s.takes(102, calls(2, 1, makes("/a")), entry(2, 1, asking(2, 1, makes("/a"))), commit(2), 102, answers(1, 2, 1, fine(2, "/a")))
	s.takes(102, calls(2, 1, makes("/a")), 102, answers(1, 2, 1, fine(2, "/a")))
	s.takes(102, beats(2, 1), 102, resumed(1, 2, 1, 2, api.ErrSession))
	s.takes(102, resumes(2, 1, 0, watch(1, "/", api.WatchSubtree)), 102, resumed(1, 2, 1, 2, api.OK), 102, delivers(1, 2, 1, []int{1}, event(2, 0, []int{1}, made("/a"))))
	s.takes(102, took(2, 1, 2))
	s.shows(viewOf(1, 1, 0), true, 0, 2, 2, [2]int{2, 0})
	s.takes(102, opens(18), entry(3, 1, opening(18)), commit(3), 102, opened(1, 18, api.OK))
	s.shows(viewOf(1, 1, 0), true, 0, 3, 3)
	s.takes(102, opens(2), 102, opened(1, 2, api.ErrOld))
	for range 3 {
		s.ticks(0, asks(), 0, settles(1))
	}
	s.ticks(entry(4, 1, expiring(18)), commit(4), 0, asks(), 0, settles(1), 102, gone(1, 18))
	history := placed(0, 1, opening(2), asking(2, 1, makes("/a")), opening(18), expiring(18))
	s.hasPlayed(history...)
	again := start(t, 1, alone, s.disk, view(1, 1, 0), entry(1, 1, history[0]), entry(2, 1, history[1]), entry(3, 1, history[2]), entry(4, 1, history[3]), commit(4), 0, settles(1))
	again.shows(viewOf(1, 1, 0), true, 0, 4, 4)
	again.hasPlayed(history...)
}

// TestNobody: a nil and a zero Node.
func TestNobody(t *testing.T) {
	for _, n := range []*node.Node{nil, {}} {
		for _, m := range []api.Message{{}, message(t, 0, 1, tells(1, 1, 0)), message(t, 101, 1, opens(1)), {From: 101, To: 0, Bytes: message(t, 101, 1, opens(1)).Bytes}} {
			if w, out := n.Take(m); len(w)+len(out) != 0 {
				t.Errorf("a Node that is none takes %v: %x, %v", m, w, out)
			}
		}
		if w, out := n.Tick(); len(w)+len(out) != 0 {
			t.Errorf("a Node that is none ticks: %x, %v", w, out)
		}
		if w, out := n.Save(); len(w)+len(out) != 0 {
			t.Errorf("a Node that is none saves: %x, %v", w, out)
		}
		if s := n.Sight(); !sameSight(s, api.Sight{}) {
			t.Errorf("a Node that is none shows %v", s)
		}
		if l := n.Played(); len(l) != 0 {
			t.Errorf("a Node that is none has played %v", l)
		}
		for _, place := range []string{"/", "", "a"} {
			if got := part(n, place, api.WatchNode); got != part((*state.Machine)(nil), place, api.WatchNode) || got != "0  0 [] says 1" {
				t.Errorf("a Node that is none has the part %s", got)
			}
		}
	}
}

// pairOf is a primary, the node 1, whose backup 2 has all that there is, in the view 1. The sessions are open, each heard from 101.
func pairOf(t *testing.T, rules api.Rules, sessions ...int) *server {
	t.Helper()
	s := start(t, 1, rules, nil)
	s.takes(0, tells(1, 1, 2), view(1, 1, 2), 2, probes(1))
	s.takes(2, joins(1, 0, 0), 0, settles(1))
	for i, session := range sessions {
		e := entry(i+1, 1, opening(session))
		s.takes(101, opens(session), e, 2, appends(1, i, min(i, 1), i, e.Entry))
		s.takes(2, acks(1, i+1), commit(i+1), 101, opened(1, session, api.OK))
	}
	return s
}

// TestRecords: P14.1, what each kind of record does at a backup.
func TestRecords(t *testing.T) {
	s := start(t, 2, three, nil)
	s.takes(0, tells(1, 1, 2), view(1, 1, 2), 1, joins(1, 0, 0))
	story := placed(0, 1, opening(1), asking(1, 1, makes("/a")), asking(1, 2, makes("/b")))
	s.takes(1, appends(1, 0, 0, 0, story[:2]...), matched(1), entry(1, 1, story[0]), entry(2, 1, story[1]), 1, acks(1, 2))
	s.shows(viewOf(1, 1, 2), false, 0, 0, 2)
	s.hasPlayed()
	s.takes(1, appends(1, 2, 1, 1, story[2:]...), commit(1), entry(3, 1, story[2]), 1, acks(1, 3))
	s.shows(viewOf(1, 1, 2), false, 0, 1, 3)
	s.hasPlayed(story[0])
	s.takes(1, appends(1, 3, 1, 3), commit(3), 1, acks(1, 3))
	s.shows(viewOf(1, 1, 2), false, 0, 3, 3)
	s.hasPlayed(story[1:]...)
	if got, want := whole(s.node), whole(played(story...)); got != want {
		t.Errorf("P14.1: the tree is %s, want %s", got, want)
	}
	other := played(opening(5), asking(5, 1, makes("/other")), closing(5), opening(6), asking(6, 1, makes("/more")))
	s.takes(0, tells(2, 3, 2), view(2, 3, 2), 3, joins(2, 3, 1))
	s.takes(3, fills(2, 5, 2, other.Freeze()), reset(2, 5, 2, other.Freeze()), 3, acks(2, 5))
	s.shows(viewOf(2, 3, 2), false, 5, 5, 5)
	s.hasPlayed()
	if got, want := whole(s.node), whole(other); got != want {
		t.Errorf("P14.1: behind a reset the tree is %s, want %s", got, want)
	}
	s.takes(3, appends(2, 5, 2, 6, placed(5, 2, asking(6, 2, makes("/last")))...), entry(6, 2, asking(6, 2, makes("/last"))), commit(6), 3, acks(2, 6))
	s.shows(viewOf(2, 3, 2), false, 5, 6, 6)
	s.hasPlayed(placed(5, 2, asking(6, 2, makes("/last")))...)
}

// TestResetForgets: P14.1, behind a reset there are no open entries: what they said does not count any more.
func TestResetForgets(t *testing.T) {
	s := start(t, 1, three, nil)
	s.takes(0, tells(1, 2, 1), view(1, 2, 1), 2, joins(1, 0, 0))
	open := placed(0, 1, opening(1), opening(2))
	s.takes(2, appends(1, 0, 0, 0, open...), matched(1), entry(1, 1, open[0]), entry(2, 1, open[1]), 2, acks(1, 2))
	text := machineAt(9).Freeze()
	s.takes(0, tells(2, 3, 1), view(2, 3, 1), 3, joins(2, 2, 1))
	s.takes(3, fills(2, 9, 2, text), reset(2, 9, 2, text), 3, acks(2, 9))
	s.takes(0, tells(3, 1, 0), view(3, 1, 0), 0, settles(3))
	s.hasPlayed()
	s.takes(101, beats(1, 1), 101, gone(3, 1))
	s.takes(101, opens(1), entry(10, 3, opening(1)), commit(10), 101, opened(3, 1, api.OK))
	s.saves(save(10, 3, s.machine(text, placed(9, 3, opening(1))...)))
}

// machine is what a machine freezes to that goes on from a text.
func (s *server) machine(text string, entries ...api.Entry) string {
	s.t.Helper()
	m, code := state.Thaw(text)
	if code != api.OK {
		s.t.Fatalf("P8.8: Thaw says %d", code)
	}
	for _, e := range entries {
		if _, _, code := m.Apply(e); code != api.OK {
			s.t.Fatalf("P8.1: Apply of %s says %d", tell(e), code)
		}
	}
	return m.Freeze()
}

// TestViewForgets: P14.1, another view clears the hub, and forgets who was heard: nobody is told anything until he is heard again.
func TestViewForgets(t *testing.T) {
	s := pairOf(t, three, 1)
	s.takes(101, resumes(1, 1, 1, watch(1, "/", api.WatchSubtree)), 101, resumed(1, 1, 1, 1, api.OK))
	call := entry(2, 1, asking(1, 1, makes("/a")))
	s.takes(101, calls(1, 1, makes("/a")), call, 2, appends(1, 1, 1, 1, call.Entry))
	s.shows(viewOf(1, 1, 2), true, 0, 1, 2, [2]int{1, 0})
	s.takes(0, tells(2, 1, 3), view(2, 1, 3), 3, probes(2))
	s.shows(viewOf(2, 1, 3), false, 0, 1, 2)
	// The entry is played in the new view, but its session is not known any more.
	s.takes(3, joins(2, 2, 1), commit(2), 0, settles(2))
	s.hasPlayed(placed(0, 1, opening(1), asking(1, 1, makes("/a")))...)
	s.ticks(0, asks(), 0, settles(2), 3, appends(2, 2, 1, 2))
	s.takes(102, calls(1, 1, makes("/a")), 102, answers(2, 1, 1, fine(2, "/a")))
	s.takes(102, beats(1, 1), 102, resumed(2, 1, 1, 2, api.ErrSession))
	s.takes(102, resumes(1, 2, 1, watch(1, "/", api.WatchSubtree)), 102, resumed(2, 1, 2, 2, api.OK), 102, delivers(2, 1, 2, []int{1}, event(2, 1, []int{1}, made("/a"))))
}

// TestLoneViewForgets: P14.1, the view comes ahead of the commit in the act of a lone primary, so what is played by it is answered to nobody.
func TestLoneViewForgets(t *testing.T) {
	s := pairOf(t, three, 1)
	call := entry(2, 1, asking(1, 1, makes("/a")))
	s.takes(101, calls(1, 1, makes("/a")), call, 2, appends(1, 1, 1, 1, call.Entry))
	s.takes(0, tells(2, 1, 0), view(2, 1, 0), commit(2), 0, settles(2))
	s.takes(101, calls(1, 1, makes("/b")), 101, answers(2, 1, 1, fine(2, "/a")))
}

// TestAnswers: P14.1, several entries played by one commit are answered in their order, each to the address from which its session was heard last, behind the act's notes.
func TestAnswers(t *testing.T) {
	rules := three
	rules.Ring = 8
	s := pairOf(t, rules, 1, 2)
	list := placed(2, 1, asking(1, 3, makes("/a"), makes("/b")), asking(2, 1, makes("/a")), opening(17), closing(2), opening(3), asking(3, 1, makes("/c")))
	s.takes(101, calls(1, 3, makes("/a"), makes("/b")), entry(3, 1, list[0]), 2, appends(1, 2, 1, 2, list[:1]...))
	s.takes(101, calls(2, 1, makes("/a")), entry(4, 1, list[1]), 2, appends(1, 2, 1, 2, list[:2]...))
	s.takes(102, opens(17), entry(5, 1, list[2]), 2, appends(1, 2, 1, 2, list[:3]...))
	s.takes(102, closes(2), entry(6, 1, list[3]), 2, appends(1, 2, 1, 2, list[:4]...))
	s.takes(102, opens(3), entry(7, 1, list[4]), 2, appends(1, 2, 1, 2, list[:5]...))
	s.takes(102, calls(3, 1, makes("/c")), entry(8, 1, list[5]), 2, appends(1, 2, 1, 2, list[:6]...))
	// What comes of a session that is still open, but will not be, does not move it elsewhere.
	s.takes(102, beats(1, 1), 102, resumed(1, 1, 1, 2, api.ErrSession))
	s.takes(101, beats(2, 1), 101, resumed(1, 2, 1, 2, api.ErrSession))
	s.takes(2, acks(1, 7), commit(7), 2, appends(1, 7, 1, 7, list[5]),
		101, answers(1, 1, 3, fine(3, "/a", "/b")),
		102, answers(1, 2, 1, api.Reply{Stamp: 4, Code: api.ErrExists}),
		102, opened(1, 17, api.OK),
		102, gone(1, 2),
		102, opened(1, 3, api.OK))
	s.hasPlayed(append(placed(0, 1, opening(1), opening(2)), list[:5]...)...)
	s.takes(2, acks(1, 8), commit(8), 102, answers(1, 3, 1, fine(8, "/c")))
}

// TestForgets: P14.1, who is over is forgotten at the end of the act: what is told of him later goes to nobody.
func TestForgets(t *testing.T) {
	s := pairOf(t, three, 1)
	list := placed(1, 1, closing(1), opening(17), opening(33))
	s.takes(101, closes(1), entry(2, 1, list[0]), 2, appends(1, 1, 1, 1, list[0]))
	s.takes(2, acks(1, 2), commit(2), 101, gone(1, 1))
	// The session 17 is heard, and overtaken while it is on its way: it never was open behind an act, but it will be told.
	s.takes(101, opens(17), entry(3, 1, list[1]), 2, appends(1, 2, 1, 2, list[1]))
	s.takes(102, opens(33), entry(4, 1, list[2]), 2, appends(1, 2, 1, 2, list[1:]...))
	// At the end of that act 17 was neither open nor to be so: it is forgotten.
	s.takes(2, acks(1, 4), commit(4), 102, opened(1, 33, api.OK))
}

// TestFullTransfer: P14.1 and P13.8, a backup that has nothing to go on from is sent the whole machine; Of is the view of the entry at the commit, or of the floor.
func TestFullTransfer(t *testing.T) {
	for _, ring := range []int{1, 2, 4} {
		rules := three
		rules.Ring = ring
		s := start(t, 1, rules, nil)
		s.takes(0, tells(1, 1, 0), view(1, 1, 0), 0, settles(1))
		for i := 1; i <= 5; i++ {
			s.takes(101, opens(i), entry(i, 1, opening(i)), commit(i), 101, opened(1, i, api.OK))
		}
		text := played(opening(1), opening(2), opening(3), opening(4), opening(5)).Freeze()
		s.takes(0, tells(3, 1, 2), view(3, 1, 2), 2, probes(3))
		s.takes(2, joins(3, 0, 0), 2, fills(3, 5, 1, text))
		// Over its checkpoint the log has nothing but its floor.
		s.saves(save(5, 1, text))
		s = start(t, 1, rules, s.disk, save(5, 1, text), view(3, 1, 2), 2, probes(3))
		s.takes(2, joins(3, 3, 1), 2, fills(3, 5, 1, text))
		s.takes(2, joins(3, 5, 1), 0, settles(3))
	}
}

// TestOpenEntriesStay: P14.1, open entries are not in a full transfer.
func TestOpenEntriesStay(t *testing.T) {
	s := start(t, 1, three, disk(t, view(1, 2, 1), matched(1), entry(1, 1, opening(1)), entry(2, 1, opening(2)), commit(1), view(2, 1, 3)),
		view(1, 1, 3), matched(1), view(2, 1, 3), entry(1, 1, opening(1)), entry(2, 1, opening(2)), commit(1), 3, probes(2))
	s.takes(3, joins(2, 2, 2), 3, fills(2, 1, 1, played(opening(1)).Freeze()))
	s.takes(3, acks(2, 1), 3, appends(2, 1, 1, 1, placed(1, 1, opening(2))...))
	s.takes(3, acks(2, 2), commit(2), 0, settles(2))
}

// TestNotForIt: P14.4, messages that are not for the server, or are none, do nothing.
func TestNotForIt(t *testing.T) {
	for _, self := range []int{1, 2, 3} {
		s := start(t, self, three, nil)
		s.takes(0, tells(1, self, 0), view(1, self, 0), 0, settles(1))
		good := message(t, 101, self, opens(1))
		for _, to := range ends() {
			if to == self {
				continue
			}
			m := good
			m.To = to
			written, sent := s.node.Take(m)
			s.does(fmt.Sprintf("P14.4: a message to %d", to), written, sent)
		}
		for _, from := range ends() {
			if from == 101 || from == 102 {
				continue
			}
			m := good
			m.From = from
			written, sent := s.node.Take(m)
			s.does(fmt.Sprintf("P14.4: a session's message from %d", from), written, sent)
		}
		for at := range good.Bytes {
			m := good
			b := []byte(m.Bytes)
			b[at] ^= 1 << (at % 8)
			m.Bytes = string(b)
			written, sent := s.node.Take(m)
			s.does(fmt.Sprintf("P14.4: a message whose byte %d is spoilt", at), written, sent)
			m.Bytes = good.Bytes[:at]
			written, sent = s.node.Take(m)
			s.does(fmt.Sprintf("P14.4: a message that ends at %d", at), written, sent)
		}
		for _, bytes := range []string{"", "\x00", "no frame", good.Bytes + good.Bytes, strings.Repeat("x", api.MaxFrame), strings.Repeat(good.Bytes, 20000)} {
			m := good
			m.Bytes = bytes
			written, sent := s.node.Take(m)
			s.does("P14.4: bytes that are no message", written, sent)
		}
		s.shows(viewOf(1, self, 0), true, 0, 0, 0)
		s.takes(101, opens(1), entry(1, 1, opening(1)), commit(1), 101, opened(1, 1, api.OK))
	}
}

// every has a note of each kind, in the view 1, each of which may be.
func every() []api.Note {
	shot := api.Shot{Place: "/", Kind: api.WatchNode}
	return []api.Note{
		opens(1), calls(1, 1, makes("/a")), closes(1), beats(1, 1), resumes(1, 1, 0), watches(1, 1, watch(1, "/", api.WatchNode)), unwatches(1, 1, 1), took(1, 1, 1),
		opened(1, 1, api.OK), answers(1, 1, 1, fine(1)), gone(1, 1), resumed(1, 1, 1, 1, api.OK), watched(1, 1, 1, 1, api.OK, api.Part{Id: 1, Shot: shot}), unwatched(1, 1, 1, 1),
		delivers(1, 1, 1, []int{1}, event(1, 0, []int{1}, made("/a"))), elsewhere(viewOf(1, 1, 0)),
		joins(1, 0, 0), appends(1, 0, 0, 0), acks(1, 0), fills(1, 1, 1, machineAt(1).Freeze()), probes(1), asks(), tells(2, 1, 3), settles(1),
	}
}

// TestWhoMaySend: P14.4, every kind of note from everybody: only what belongs to whoever sends it does anything.
func TestWhoMaySend(t *testing.T) {
	rules := api.Rules{Nodes: 3, Clients: 4, Queue: 1, Ring: 4, Window: 1}
	primary := func() *server { return pairOf(t, rules) }
	backup := func() *server {
		s := start(t, 1, rules, nil)
		s.takes(0, tells(1, 2, 1), view(1, 2, 1), 2, joins(1, 0, 0))
		return s
	}
	lone := func() *server {
		s := start(t, 1, rules, nil)
		s.takes(0, tells(1, 1, 0), view(1, 1, 0), 0, settles(1))
		return s
	}
	for part, fresh := range map[string]func() *server{"primary": primary, "backup": backup, "lone": lone} {
		for _, n := range every() {
			for from := 0; from <= 100+api.MaxClients; from++ {
				if from > api.MaxPeers && from <= 100 {
					continue
				}
				isOfService := from == 0 && n.Kind == api.NoteTell
				isOfClient := 101 <= from && from <= 104 && n.Kind <= api.NoteTook
				isOfCore := from == 2 && (part == "primary" && (n.Kind == api.NoteJoin || n.Kind == api.NoteAcked) || part == "backup" && (n.Kind == api.NoteAppend || n.Kind == api.NoteFull || n.Kind == api.NoteProbe))
				s := fresh()
				before := s.node.Sight()
				written, sent := s.node.Take(message(t, from, 1, n))
				does := len(written)+len(sent) > 0
				// The second time that the primary hears of its backup there is nothing to do.
				if want := isOfService || isOfClient || isOfCore && part == "backup"; does != want {
					t.Errorf("P14.4: %s: %d > 1 %s writes %s and sends %s", part, from, tellNote(n), tellBytes(s.number, written), tellMessages(sent))
				}
				if !does && !sameSight(s.node.Sight(), before) {
					t.Errorf("P14.4: %s: %d > 1 %s changes what is shown", part, from, tellNote(n))
				}
			}
		}
	}
}

// TestAppendOfNoView: P14.4, entries that no machine plays are not taken, wherever they stand.
func TestAppendOfNoView(t *testing.T) {
	s := start(t, 1, three, nil)
	s.takes(0, tells(2, 2, 1), view(2, 2, 1), 2, joins(2, 0, 0))
	good := placed(0, 1, opening(1), opening(2), opening(3))
	for at := range good {
		bad := placed(0, 1, opening(1), opening(2), opening(3))
		bad[at].View = 0
		s.takes(2, appends(2, 0, 0, 0, bad...))
	}
	s.takes(2, appends(2, 0, 0, 0, good...), matched(2), entry(1, 1, good[0]), entry(2, 1, good[1]), entry(3, 1, good[2]), 2, acks(2, 3))
	// Not even such as the server has.
	old := placed(0, 1, opening(1))
	old[0].View = 0
	s.takes(2, appends(2, 0, 0, 1, old...))
	s.takes(2, appends(2, 0, 0, 1, good[:1]...), commit(1), 2, acks(2, 3))
}

// TestFullOfNothing: P14.4, a full transfer that does not bring the machine of its stamp is nothing, also where the core would not need it.
func TestFullOfNothing(t *testing.T) {
	s := start(t, 1, three, nil)
	s.takes(0, tells(2, 2, 1), view(2, 2, 1), 2, joins(2, 0, 0))
	text := played(opening(1), asking(1, 1, makes("/a"))).Freeze()
	wrong := []api.Note{fills(2, 2, 1, ""), fills(2, 2, 1, "s"), fills(2, 1, 1, text), fills(2, 3, 1, text), fills(2, 2, 1, text[1:]), fills(2, 2, 1, text[:len(text)-1]), fills(2, 2, 1, text+"\x00"), fills(2, 0, 0, "")}
	for _, n := range wrong {
		s.takes(2, n)
	}
	s.takes(2, fills(2, 2, 1, text), reset(2, 2, 1, text), 2, acks(2, 2))
	for _, n := range wrong {
		s.takes(2, n)
	}
	s.takes(2, fills(2, 2, 1, text), 2, acks(2, 2))
	s.takes(2, fills(2, 0, 0, state.New().Freeze()), 2, acks(2, 2))
}

// TestBeyondTheRules: P14.4, a view may name a node that the rules have not: it is sent to, but not heard.
func TestBeyondTheRules(t *testing.T) {
	s := start(t, 1, three, nil)
	s.takes(0, tells(1, 1, 4), view(1, 1, 4), 4, probes(1))
	s.takes(4, joins(1, 0, 0))
	s.takes(5, joins(1, 0, 0))
	s.takes(1, joins(1, 0, 0))
	s.takes(0, tells(1, 1, 2))
	s.takes(0, tells(0, 1, 2))
	s.takes(0, tells(2, 6, 2))
	s.takes(0, tells(2, 1, 1))
	s.takes(0, tells(most, 1, 3), view(most, 1, 3), 3, probes(most))
	s.takes(3, joins(most, 0, 0), 0, settles(most))
	s.takes(101, opens(1), entry(1, most, opening(1)), 3, appends(most, 0, 0, 0, placed(0, most, opening(1))...))
	s.takes(3, acks(most, 1), commit(1), 101, opened(most, 1, api.OK))
}

// TestSave: P14.7, at any commit, and what a server is that starts over it.
func TestSave(t *testing.T) {
	rules := three
	rules.Ring = 2
	s := start(t, 1, rules, nil)
	s.saves(save(0, 0, state.New().Freeze()))
	s.takes(0, tells(1, 1, 0), view(1, 1, 0), 0, settles(1))
	s.saves(save(0, 0, state.New().Freeze()))
	var story []api.Entry
	for i := 1; i <= 5; i++ {
		story = append(story, opening(i))
		s.takes(101, opens(i), entry(i, 1, opening(i)), commit(i), 101, opened(1, i, api.OK))
		text := played(story...).Freeze()
		s.saves(save(i, 1, text))
		s.saves(save(i, 1, text))
		s.shows(viewOf(1, 1, 0), true, max(0, i-2), i, i)
		s.hasPlayed(placed(i-1, 1, opening(i))...)
		again := start(t, 1, rules, s.disk, save(i, 1, text), view(1, 1, 0), 0, settles(1))
		again.shows(viewOf(1, 1, 0), true, i, i, i)
		again.hasPlayed()
		again.saves(save(i, 1, text))
		again.takes(0, tells(2, 2, 3), view(2, 2, 3))
		again.saves(save(i, 1, text))
	}
	if said, _, size := journal.Recover(s.disk); size != len(s.disk) || said.Stamp != 5 || len(said.Entries) != 0 {
		t.Errorf("P14.10: the journal says %s", tell(said))
	}
	// Open entries stay behind a checkpoint.
	s = pairOf(t, rules, 1)
	open := placed(1, 1, asking(1, 1, makes("/a")))
	s.takes(101, calls(1, 1, makes("/a")), entry(2, 1, open[0]), 2, appends(1, 1, 1, 1, open...))
	text := played(opening(1)).Freeze()
	s.saves(save(1, 1, text))
	s.shows(viewOf(1, 1, 2), true, 0, 1, 2)
	again := start(t, 1, rules, s.disk, save(1, 1, text), view(1, 1, 2), entry(2, 1, open[0]), 2, probes(1))
	again.takes(2, joins(1, 2, 1), commit(2), 0, settles(1))
	again.hasPlayed(open...)
}

// TestPart: P14.8, Part is the machine's, with all that it says of places and kinds.
func TestPart(t *testing.T) {
	s := pairOf(t, three, 1)
	list := placed(1, 1, asking(1, 1, makes("/a"), makes("/a/b"), makes("/c")))
	s.takes(101, calls(1, 1, list[0].Ops...), entry(2, 1, list[0]), 2, appends(1, 1, 1, 1, list...))
	holds := func(m *state.Machine) {
		t.Helper()
		for _, place := range []string{"/", "/a", "/a/b", "/c", "/none", "", "a", "//", "/a/", "/\xff", "/" + strings.Repeat("a", 1<<20)} {
			for _, kind := range []int{api.WatchNode, api.WatchKids, api.WatchSubtree, 0, 4, -1} {
				if got, want := part(s.node, place, kind), part(m, place, kind); got != want {
					t.Errorf("P14.8: Part(%q, %d) is %s, want %s", place, kind, got, want)
				}
			}
		}
	}
	holds(played(opening(1)))
	s.takes(2, acks(1, 2), commit(2), 101, answers(1, 1, 1, fine(2, "/a", "/a/b", "/c")))
	holds(played(opening(1), list[0]))
}

// TestNoNumberLeft: W7, at the greatest stamp nothing more is proposed.
func TestNoNumberLeft(t *testing.T) {
	text := machineAt(most - 1).Freeze()
	s := start(t, 1, alone, disk(t, save(most-1, 1, text), view(1, 1, 0)), save(most-1, 1, text), view(1, 1, 0), 0, settles(1))
	s.takes(101, opens(1), entry(most, 1, opening(1)), commit(most), 101, opened(1, 1, api.OK))
	s.takes(101, opens(2))
	s.takes(101, beats(2, 1), 101, gone(1, 2))
	s.takes(101, calls(1, 1, makes("/a")))
	s.takes(101, closes(1))
	for range 5 {
		s.ticks(0, asks(), 0, settles(1))
	}
	s.saves(save(most, 1, s.machine(text, placed(most-1, 1, opening(1))...)))
	s.shows(viewOf(1, 1, 0), true, most-1, most, most)
}
