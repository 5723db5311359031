package node_test

import (
	"fmt"
	"testing"

	"herald/api"
	"herald/journal"
	"herald/note"
)

// standing is how a session stands at the crowd's server.
type standing struct {
	what    string
	session int
	here    bool // it is open here
	stays   bool // it will be open
	newer   bool // it is above its slot's next greatest
	request int  // the greatest one of it that is on its way
	kept    int  // the last one that the machine keeps
	stamp   int  // at which that was played
}

func standings() []standing {
	return []standing{
		{what: "open", session: 1, here: true, stays: true, request: 7, kept: 5, stamp: 2},
		{what: "open, nothing on its way", session: 11, here: true, stays: true, kept: 5, stamp: 16},
		{what: "open, without a request as yet", session: 12, here: true, stays: true},
		{what: "which took over", session: 23, here: true, stays: true, request: 6, kept: 5, stamp: 19},
		{what: "to be open", session: 2, stays: true},
		{what: "to be open, with a request", session: 13, stays: true, request: 5},
		{what: "to take over", session: 19, stays: true},
		{what: "to be taken over", session: 3, here: true, kept: 5, stamp: 4},
		{what: "to be closed", session: 4, here: true, kept: 5, stamp: 6},
		{what: "to be given up", session: 8, here: true, kept: 5, stamp: 12},
		{what: "closed", session: 5},
		{what: "taken over", session: 7},
		{what: "given up", session: 10},
		{what: "to be opened and closed", session: 9},
		{what: "never open", session: 6, newer: true},
		{what: "never open, above one that was closed", session: 21, newer: true},
		{what: "never open, above one that is open", session: 17, newer: true},
		{what: "never open, above one that will be open", session: 35, newer: true},
		{what: "never open, above one that will be closed", session: 20, newer: true},
		{what: "never open, below one that is open", session: 14},
	}
}

// silent keeps what an event writes, without looking at it.
func (s *server) silent(written []byte, _ []api.Message) {
	s.t.Helper()
	s.number += len(recordsOf(s.number, written))
	s.disk = append(s.disk, written...)
}

func (s *server) silently(from int, n api.Note) {
	s.t.Helper()
	s.silent(s.node.Take(message(s.t, from, s.self, n)))
}

// ackAll lets the backup 2 have all that the primary has.
func (s *server) ackAll() {
	s.t.Helper()
	s.silently(2, acks(1, s.node.Sight().Last))
}

// lets gives one session up: the others are heard between two ticks.
func (s *server) lets(others ...int) {
	s.t.Helper()
	for range 2 {
		for _, other := range others {
			s.silently(101, beats(other, 1))
		}
		s.silent(s.node.Tick())
	}
}

// crowd is a primary with sessions of all standings, heard from 101.
func crowd(t *testing.T) *server {
	t.Helper()
	s := pairOf(t, api.Rules{Nodes: 2, Clients: 3, Queue: 4, Ring: 64, Window: 4, Lease: 1})
	for _, session := range []int{1, 3, 4, 5, 7, 8, 10, 11, 12, 23, 30} {
		s.silently(101, opens(session))
		if session != 12 {
			s.silently(101, calls(session, 5, makes(fmt.Sprintf("/n%d", session))))
		}
		s.ackAll()
	}
	s.silently(101, closes(5))
	s.lets(1, 3, 4, 8, 11, 12, 23, 30) // without 10
	s.ackAll()
	// From here on nothing is committed.
	s.lets(1, 3, 4, 11, 12, 23, 30) // without 8
	for _, n := range []api.Note{calls(1, 6, makes("/on")), calls(1, 7), calls(23, 6), opens(2), opens(13), calls(13, 5), opens(19), closes(4), opens(9), closes(9)} {
		s.silently(101, n)
	}
	s.shows(viewOf(1, 1, 2), true, 0, 23, 34)
	return s
}

// open are the open entries of the crowd.
func (s *server) open() []api.Entry {
	said, _, _ := journal.Recover(s.disk)
	return said.Entries[said.Commit-said.Stamp:]
}

// proposes are the record and the message by which the crowd's server proposes an entry.
func (s *server) proposes(e api.Entry) []any {
	r := entry(35, 1, e)
	return []any{r, 2, appends(1, 23, 1, 23, append(s.open(), r.Entry)...)}
}

// answered is what the crowd's server does at a client's note of a session: the table of P14.5.
func (s *server) answered(x standing, n api.Note) []any {
	if n.Kind != api.NoteOpen && !x.here && !x.stays {
		return []any{102, gone(1, x.session)}
	}
	greatest := x.request
	if greatest == 0 {
		greatest = x.kept
	}
	switch n.Kind {
	case api.NoteOpen:
		switch {
		case x.stays && x.here:
			return []any{102, opened(1, x.session, api.OK)}
		case x.newer:
			return s.proposes(opening(x.session))
		case !x.stays && !x.here:
			return []any{102, opened(1, x.session, api.ErrOld)}
		}
	case api.NoteClose:
		if x.stays {
			return s.proposes(closing(x.session))
		}
	case api.NoteCall:
		switch {
		case x.stays && n.Request > greatest:
			return s.proposes(asking(x.session, n.Request, n.Ops...))
		case x.stays && n.Request == x.kept && x.request == 0:
			return []any{102, answers(1, x.session, n.Request, fine(x.stamp, fmt.Sprintf("/n%d", x.session)))}
		}
	case api.NoteResume:
		if x.here {
			return []any{102, resumed(1, x.session, n.Conn, 23, api.OK)}
		}
	default:
		if x.here {
			return []any{102, resumed(1, x.session, n.Conn, 23, api.ErrSession)}
		}
	}
	return nil
}

// TestClients: P14.5, every kind of note for sessions of every standing, from another address than the one from which they were heard.
func TestClients(t *testing.T) {
	for _, x := range standings() {
		notes := []api.Note{opens(x.session), closes(x.session), beats(x.session, 1), resumes(x.session, 1, 23), watches(x.session, 1, watch(1, "/", api.WatchNode)), unwatches(x.session, 1, 1), took(x.session, 1, 23)}
		for request := 1; request <= 8; request++ {
			notes = append(notes, calls(x.session, request, makes("/more"), sets("/more", "y")))
		}
		for _, n := range notes {
			s := crowd(t)
			want := s.answered(x, n)
			s.takes(102, n, want...)
			s.holdsHeard(x, n, len(want) > 2)
			if t.Failed() {
				t.Fatalf("of a session that is %s", x.what)
			}
		}
	}
}

// holdsHeard: P14.5, who was heard from where is seen by where the answers go when all that is open is committed.
func (s *server) holdsHeard(x standing, n api.Note, proposed bool) {
	s.t.Helper()
	_, sent := s.node.Take(message(s.t, 2, 1, acks(1, s.node.Sight().Last)))
	told := map[answer]int{}
	for _, m := range sent {
		got, _ := note.Open(m)
		told[answerOf(got)]++
		want := 101
		if got.Session == x.session && (x.stays || proposed) {
			want = 102
		}
		if m.To != want {
			s.t.Errorf("P14.5: behind %s the answer of %d goes to %d, want %d", tellNote(n), got.Session, m.To, want)
		}
	}
	for _, w := range []answer{{api.NoteGone, 8, 0}, {api.NoteAnswer, 1, 6}, {api.NoteAnswer, 1, 7}, {api.NoteAnswer, 23, 6}, {api.NoteOpened, 2, 0}, {api.NoteOpened, 13, 0}, {api.NoteAnswer, 13, 5}, {api.NoteOpened, 19, 0}, {api.NoteGone, 4, 0}} {
		want := 1
		if w.session == forgotten(x, n) {
			want = 0
		}
		if told[w] != want {
			s.t.Errorf("P14.1: behind %s there are %d answers %v, want %d", tellNote(n), told[w], w, want)
		}
	}
}

// answer is of which kind an answer is, and to what.
type answer struct{ kind, session, request int }

func answerOf(n api.Note) answer { return answer{n.Kind, n.Session, n.Request} }

// forgotten is a session that is neither open nor will be, as soon as a note has come.
func forgotten(x standing, n api.Note) int {
	switch {
	case n.Kind == api.NoteClose && x.stays && !x.here:
		return x.session
	case n.Kind == api.NoteOpen && x.session == 35:
		return 19
	}
	return 0
}

// TestElsewhere: P14.5, a server that is not active says where to ask, whatever is asked, and remembers nothing of it.
func TestElsewhere(t *testing.T) {
	notes := every()[:8]
	s := start(t, 1, three, nil)
	holds := func() {
		t.Helper()
		for _, n := range notes {
			s.takes(102, n, 102, elsewhere(s.node.Sight().View))
		}
	}
	holds()
	s.takes(0, tells(1, 2, 1), view(1, 2, 1), 2, joins(1, 0, 0))
	holds()
	s.takes(0, tells(2, 3, 2), view(2, 3, 2))
	holds()
	s.takes(0, tells(3, 1, 2), view(3, 1, 2), 2, probes(3))
	holds()
	s.takes(2, joins(3, 0, 0), 0, settles(3))
	for _, n := range notes[1:] {
		s.takes(102, n, 102, gone(3, 1))
	}
}

// TestHeardOfOpen: P14.5, a NoteOpen that is not taken by the core is not heard; one that is taken is so ahead of the act.
func TestHeardOfOpen(t *testing.T) {
	rules := three
	rules.Ring = 1
	s := pairOf(t, rules)
	e := placed(0, 1, opening(1))
	s.takes(101, opens(1), entry(1, 1, e[0]), 2, appends(1, 0, 0, 0, e...))
	s.takes(101, opens(2))
	s.takes(102, opens(2))
	s.takes(102, beats(2, 1), 102, gone(1, 2))
	s.takes(101, calls(1, 1, makes("/a")))
	s.takes(101, closes(1))
	// 1 was heard last from 102.
	s.takes(102, opens(1))
	s.takes(2, acks(1, 1), commit(1), 102, opened(1, 1, api.OK))
	e = placed(1, 1, opening(2))
	s.takes(101, opens(2), entry(2, 1, e[0]), 2, appends(1, 1, 1, 1, e...))
	s.takes(2, acks(1, 2), commit(2), 101, opened(1, 2, api.OK))
}

// TestBusy: P14.5, no more than MaxOpen entries are on their way; what does not fit is neither written nor answered.
func TestBusy(t *testing.T) {
	rules := api.Rules{Nodes: 2, Clients: 1, Queue: 1, Ring: api.MaxRing, Window: 1, Lease: 1}
	s := pairOf(t, rules, 1)
	for i := range api.MaxOpen {
		s.silently(101, calls(1, i+1, makes("/a")))
	}
	s.shows(viewOf(1, 1, 2), true, 0, 1, 1+api.MaxOpen)
	s.takes(101, calls(1, 99, makes("/a")))
	s.takes(101, closes(1))
	s.takes(101, opens(2))
	s.takes(101, opens(17))
	tick := []any{0, asks(), 0, settles(1), 2, appends(1, 1, 1, 1, s.open()[:api.MaxBatch]...)}
	for range 3 {
		s.ticks(tick...)
	}
	// As soon as there is room, it is given up: the time has gone by.
	s.silently(2, acks(1, 2))
	e := placed(1+api.MaxOpen, 1, expiring(1))
	tick = []any{entry(2+api.MaxOpen, 1, e[0]), 0, asks(), 0, settles(1), 2, appends(1, 2, 1, 2, s.open()[:api.MaxBatch]...), 2, appends(1, 2, 1, 2, s.open()[:api.MaxBatch]...)}
	s.ticks(tick...)
}

// TestRequests: P14.5, what is the greatest request, where a session is opened again by its own entry on its way.
func TestRequests(t *testing.T) {
	rules := three
	rules.Ring = 64
	s := pairOf(t, rules, 1)
	e := placed(1, 1, asking(1, 5, makes("/a")), asking(1, 6, makes("/b")), closing(1), opening(17), asking(17, 2, makes("/c")))
	s.takes(101, calls(1, 5, makes("/a")), entry(2, 1, e[0]), 2, appends(1, 1, 1, 1, e[:1]...))
	s.takes(101, calls(1, 5, makes("/a")))
	s.takes(101, calls(1, 4, makes("/a")))
	s.takes(101, calls(1, 6, makes("/b")), entry(3, 1, e[1]), 2, appends(1, 1, 1, 1, e[:2]...))
	s.takes(101, calls(1, 5, makes("/a")))
	s.takes(101, calls(1, 6, makes("/a")))
	// Half of it is played: the machine keeps 5, but 6 is on its way.
	s.takes(2, acks(1, 2), commit(2), 2, appends(1, 2, 1, 2, e[1]), 101, answers(1, 1, 5, fine(2, "/a")))
	s.takes(101, calls(1, 5, makes("/a")))
	s.takes(101, calls(1, 6, makes("/a")))
	s.takes(2, acks(1, 3), commit(3), 101, answers(1, 1, 6, fine(3, "/b")))
	s.takes(102, calls(1, 6), 102, answers(1, 1, 6, fine(3, "/b")))
	s.takes(102, calls(1, 5))
	s.takes(102, closes(1), entry(4, 1, e[2]), 2, appends(1, 3, 1, 3, e[2]))
	s.takes(102, closes(1))
	s.takes(102, calls(1, 6))
	s.takes(102, opens(1))
	s.takes(102, opens(17), entry(5, 1, e[3]), 2, appends(1, 3, 1, 3, e[2:4]...))
	s.takes(102, calls(17, 2, makes("/c")), entry(6, 1, e[4]), 2, appends(1, 3, 1, 3, e[2:5]...))
	s.takes(102, calls(17, 2, makes("/c")))
	s.takes(102, calls(17, 1, makes("/c")))
	s.takes(2, acks(1, 6), commit(6), 102, gone(1, 1), 102, opened(1, 17, api.OK), 102, answers(1, 17, 2, fine(6, "/c")))
	s.takes(101, opens(1), 101, opened(1, 1, api.ErrOld))
}

// TestRefusedRequest: P14.5, a reply that says no is kept and told like any other.
func TestRefusedRequest(t *testing.T) {
	s := start(t, 1, alone, nil)
	s.takes(0, tells(1, 1, 0), view(1, 1, 0), 0, settles(1))
	s.takes(101, opens(1), entry(1, 1, opening(1)), commit(1), 101, opened(1, 1, api.OK))
	no := answers(1, 1, most, api.Reply{Stamp: 2, Code: api.ErrNoNode, At: 1})
	s.takes(101, calls(1, most, makes("/a"), gets("/b")), entry(2, 1, asking(1, most, makes("/a"), gets("/b"))), commit(2), 101, no)
	s.takes(101, calls(1, most, makes("/a")), 101, no)
	s.takes(101, calls(1, most-1, makes("/a")))
	none := answers(1, 2, 1, api.Reply{Stamp: 4, Code: api.ErrOp})
	s.takes(101, opens(2), entry(3, 1, opening(2)), commit(3), 101, opened(1, 2, api.OK))
	s.takes(101, calls(2, 1), entry(4, 1, asking(2, 1)), commit(4), 101, none)
	// The greatest session of all, in the slot 15.
	s.takes(101, opens(most), entry(5, 1, opening(most)), commit(5), 101, opened(1, most, api.OK))
	s.takes(101, opens(15), 101, opened(1, 15, api.ErrOld))
}

// TestConnections: P14.5, the rows that stand on the hub.
func TestConnections(t *testing.T) {
	s := start(t, 1, alone, nil)
	s.takes(0, tells(1, 1, 0), view(1, 1, 0), 0, settles(1))
	s.takes(101, opens(1), entry(1, 1, opening(1)), commit(1), 101, opened(1, 1, api.OK))
	s.takes(102, opens(2), entry(2, 1, opening(2)), commit(2), 102, opened(1, 2, api.OK))
	s.takes(101, resumes(1, 2, 1, watch(3, "/", api.WatchKids)), 101, resumed(1, 1, 2, 2, api.OK))
	s.shows(viewOf(1, 1, 0), true, 0, 2, 2, [2]int{1, 0})
	// A beat of the connection that the hub has is nothing; of any other, the client learns that it is not there.
	s.takes(101, beats(1, 2))
	s.takes(101, beats(1, 1), 101, resumed(1, 1, 1, 2, api.ErrSession))
	s.takes(101, beats(1, 3), 101, resumed(1, 1, 3, 2, api.ErrSession))
	s.takes(102, beats(2, 2), 102, resumed(1, 2, 2, 2, api.ErrSession))
	// Of an older connection nothing is said; of the same, it is there; of one that cannot be, why.
	s.takes(101, resumes(1, 1, 0))
	s.takes(101, resumes(1, 2, 0), 101, resumed(1, 1, 2, 2, api.OK))
	s.takes(101, resumes(1, 3, 3), 101, resumed(1, 1, 3, 2, api.ErrAhead))
	s.takes(101, resumes(1, 3, 2, api.Watch{Id: 1, Place: "/", Kind: 1, From: 3}), 101, resumed(1, 1, 3, 2, api.ErrAhead))
	s.takes(101, resumes(1, 3, 2, watch(1, "/", 1), watch(1, "/a", 1)), 101, resumed(1, 1, 3, 2, api.ErrWatch))
	s.takes(101, beats(1, 2))
	// Watches, what they see, and why not.
	shot := api.Shot{Stamp: 2, Place: "/", Kind: api.WatchSubtree, Nodes: []api.Seen{{Place: "/"}}}
	s.takes(101, watches(1, 2, watch(4, "/", api.WatchSubtree)), 101, watched(1, 1, 2, 2, api.OK, api.Part{Id: 4, Shot: shot}))
	s.takes(101, watches(1, 2, watch(4, "/", api.WatchSubtree)), 101, watched(1, 1, 2, 2, api.OK, api.Part{Id: 4, Shot: shot}))
	s.takes(101, watches(1, 2, watch(4, "/", api.WatchNode)), 101, watched(1, 1, 2, 2, api.ErrWatch, api.Part{Id: 4}))
	s.takes(101, watches(1, 1, watch(5, "/", api.WatchNode)), 101, resumed(1, 1, 1, 2, api.ErrSession))
	s.takes(101, watches(2, 2, watch(5, "/", api.WatchNode)), 101, resumed(1, 2, 2, 2, api.ErrSession))
	for id := 5; id <= 6; id++ {
		s.takes(101, watches(1, 2, watch(id, "/none", api.WatchNode)), 101, watched(1, 1, 2, 2, api.OK, api.Part{Id: id, Shot: api.Shot{Stamp: 2, Place: "/none", Kind: api.WatchNode}}))
	}
	s.takes(101, watches(1, 2, watch(7, "/", api.WatchNode)), 101, watched(1, 1, 2, 2, api.ErrFull, api.Part{Id: 7}))
	// No more of a watch, whether it was there or not.
	s.takes(101, unwatches(1, 2, 5), 101, unwatched(1, 1, 2, 5))
	s.takes(101, unwatches(1, 2, 5), 101, unwatched(1, 1, 2, 5))
	s.takes(101, unwatches(1, 3, 6), 101, resumed(1, 1, 3, 2, api.ErrSession))
	s.takes(102, unwatches(2, 2, 6), 102, resumed(1, 2, 2, 2, api.ErrSession))
	s.takes(101, took(1, 3, 2), 101, resumed(1, 1, 3, 2, api.ErrSession))
	s.takes(102, took(2, 2, 2), 102, resumed(1, 2, 2, 2, api.ErrSession))
	s.takes(101, took(1, 2, most))
	// A new connection takes the place of the old one.
	s.takes(102, resumes(1, 3, 2), 102, resumed(1, 1, 3, 2, api.OK))
	s.takes(101, beats(1, 2), 101, resumed(1, 1, 2, 2, api.ErrSession))
	s.takes(101, beats(1, 3))
}
