package node_test

import (
	"bytes"
	"fmt"
	"maps"
	"slices"
	"testing"

	"herald/api"
	"herald/fan"
	"herald/journal"
	"herald/node"
	"herald/note"
	"herald/pair"
	"herald/state"
)

// again is a server reckoned a second time, word by word along the chapter: what will be open is asked of a machine that plays the open entries, too.
type again struct {
	self  int
	rules api.Rules
	core  *pair.Core
	hub   *fan.Hub
	now   *state.Machine
	open  []api.Entry
	disk  []byte
	count int // of its records
	where map[int]int
	ago   map[int]int
	fresh []api.Entry // played, and not told as yet
	floor int         // of the hub when it was made

	// Of the event that goes on:
	ink    []byte
	out    []api.Message
	played int
}

// startAgain is Open of what may be opened.
func startAgain(self int, rules api.Rules, disk []byte) (*again, []byte, []api.Message) {
	said, _, _ := journal.Recover(disk)
	g := &again{self: self, rules: rules, where: map[int]int{}, ago: map[int]int{}}
	if said.State == "" {
		g.standOn(state.New())
	} else {
		m, _ := state.Thaw(said.State)
		g.standOn(m)
	}
	var act pair.Act
	g.core, act, _ = pair.New(self, rules.Ring, said)
	g.ink, g.count, _ = journal.Compact(said)
	g.open = said.Entries
	g.plays(said.Commit)
	g.does(act)
	return g, g.ends(), g.sent()
}

// ends is what an event has written.
func (g *again) ends() []byte {
	ink := g.ink
	g.disk = append(g.disk, ink...)
	g.ink = nil
	return ink
}

func (g *again) sent() []api.Message {
	out := g.out
	g.out, g.played = nil, 0
	return out
}

func (g *again) standOn(m *state.Machine) {
	g.now, g.open, g.floor = m, nil, m.Last()
	g.hub, _ = fan.New(g.rules.Queue, g.rules.Ring, m.Last())
	clear(g.where)
	clear(g.ago)
}

// later is a machine that has played the open entries, too.
func (g *again) later() *state.Machine {
	m, _ := state.Thaw(g.now.Freeze())
	for _, e := range g.open {
		m.Apply(e)
	}
	return m
}

func (g *again) isHere(session int) bool { return slices.Contains(g.now.Sessions(), session) }

func (g *again) willBe(session int) bool { return slices.Contains(g.later().Sessions(), session) }

func (g *again) writes(r api.Record) {
	g.count++
	data, _ := journal.Encode(g.count, r)
	g.ink = append(g.ink, data...)
}

func (g *again) sends(to int, n api.Note) {
	m, _ := note.Message(g.self, to, n)
	g.out = append(g.out, m)
}

// tells sends a client a note; View.Num is that of the core's view.
func (g *again) tells(to int, n api.Note) {
	n.View = api.View{Num: g.core.View().Num}
	g.sends(to, n)
}

// plays plays the open entries up to a stamp, and tells what is to be answered.
func (g *again) plays(stamp int) []api.Note {
	var notes []api.Note
	for len(g.open) > 0 && g.open[0].Stamp <= stamp {
		e := g.open[0]
		g.open = g.open[1:]
		reply, changes, _ := g.now.Apply(e)
		g.hub.Commit(e.Stamp, changes, g.now)
		g.fresh = append(g.fresh, e)
		g.played++
		notes = append(notes, map[int]api.Note{
			api.EntryRequest: {Kind: api.NoteAnswer, Session: e.Session, Request: e.Request, Reply: reply},
			api.EntryOpen:    {Kind: api.NoteOpened, Session: e.Session, Code: reply.Code},
			api.EntryClose:   {Kind: api.NoteGone, Session: e.Session},
			api.EntryExpire:  {Kind: api.NoteGone, Session: e.Session},
		}[e.Kind])
	}
	for _, session := range first(g.hub.Sessions()) {
		if !g.isHere(session) {
			g.hub.Drop(session)
		}
	}
	return notes
}

func first(a, _, _ []int) []int { return a }

// of is the view of the entry at the commit, or of the floor.
func (g *again) of() int {
	stamp, of := g.core.Log().Floor()
	for e := range g.core.Log().All() {
		if stamp < g.core.Commit() {
			stamp, of = e.Stamp, e.View
		}
	}
	return of
}

func (g *again) does(act pair.Act) {
	var notes []api.Note
	for _, r := range act.Records {
		g.writes(r)
		switch r.Kind {
		case api.RecordView:
			g.hub.Clear()
			clear(g.where)
			clear(g.ago)
		case api.RecordEntry:
			g.open = append(g.open, r.Entry)
		case api.RecordCommit:
			notes = append(notes, g.plays(r.Stamp)...)
		case api.RecordReset:
			m, _ := state.Thaw(r.State)
			g.standOn(m)
		}
	}
	for _, o := range act.Notes {
		g.sends(o.To, o.Note)
	}
	for _, to := range act.Want {
		g.sends(to, fills(g.core.View().Num, g.core.Commit(), g.of(), g.now.Freeze()))
	}
	for _, n := range notes {
		if to, known := g.where[n.Session]; known {
			g.tells(to, n)
		}
	}
	here, later := g.now.Sessions(), g.later().Sessions()
	isOver := func(session, _ int) bool { return !slices.Contains(here, session) && !slices.Contains(later, session) }
	maps.DeleteFunc(g.where, isOver)
	maps.DeleteFunc(g.ago, isOver)
}

func (g *again) delivers(to ...int) {
	sessions, conns, counts := g.hub.Sessions()
	for i, session := range sessions {
		address, known := g.where[session]
		if !known || counts[i] == 0 || len(to) > 0 && to[0] != session {
			continue
		}
		n := api.Note{Kind: api.NoteDeliver, Session: session, Conn: conns[i], Items: g.hub.Next(session, g.rules.Window)}
		for _, w := range g.hub.Watches(session) {
			n.Watches = append(n.Watches, api.Watch{Id: w.Id})
		}
		g.tells(address, n)
	}
}

func (g *again) take(m api.Message) {
	n, code := note.Open(m)
	if m.To != g.self || code != api.OK {
		return
	}
	waits := false
	switch {
	case m.From == 0:
		if n.Kind == api.NoteTell {
			g.does(g.core.Adopt(n.View))
		}
	case m.From <= g.rules.Nodes:
		if !g.isOff(n) && slices.Contains([]int{api.NoteJoin, api.NoteAppend, api.NoteAcked, api.NoteFull, api.NoteProbe}, n.Kind) {
			g.does(g.core.Take(m.From, n))
		}
	case m.From >= 101 && m.From <= 100+g.rules.Clients && n.Kind >= api.NoteOpen && n.Kind <= api.NoteTook:
		waits = g.serves(m.From, n)
	}
	if g.played > 0 {
		g.delivers()
	} else if waits {
		g.delivers(n.Session)
	}
}

// isOff tells of another node's note whether it brings what no machine plays, or no machine.
func (g *again) isOff(n api.Note) bool {
	if n.Kind == api.NoteFull {
		m, code := state.Thaw(n.State)
		return code != api.OK || m.Last() != n.Stamp
	}
	return slices.ContainsFunc(n.Entries, func(e api.Entry) bool { return e.View == 0 })
}

// serves does what a client asks for; it tells whether what waits for its session is to be delivered.
func (g *again) serves(from int, n api.Note) bool {
	s := n.Session
	if !g.core.Active() {
		g.sends(from, api.Note{Kind: api.NoteElsewhere, View: g.core.View()})
		return false
	}
	here, willBe := g.isHere(s), g.willBe(s)
	if !here && !willBe && n.Kind != api.NoteOpen {
		g.tells(from, api.Note{Kind: api.NoteGone, Session: s})
		return false
	}
	if willBe {
		g.where[s], g.ago[s] = from, 0
	}
	resumed := func(code api.Errno) {
		g.tells(from, api.Note{Kind: api.NoteResumed, Session: s, Conn: n.Conn, Stamp: g.hub.Last(), Code: code})
	}
	switch {
	case n.Kind == api.NoteOpen:
		g.opens(from, s, here, willBe)
	case n.Kind == api.NoteClose && willBe:
		g.proposes(api.Entry{Kind: api.EntryClose, Session: s}, nil)
	case n.Kind == api.NoteCall && willBe:
		g.calls(from, n)
	case !here:
	case n.Kind == api.NoteBeat:
		sessions, conns, _ := g.hub.Sessions()
		if at := slices.Index(sessions, s); at < 0 || conns[at] != n.Conn {
			resumed(api.ErrSession)
		}
	case n.Kind == api.NoteResume:
		code := g.hub.Resume(s, n.Conn, n.Stamp, n.Watches, g.now)
		if code != api.ErrOld {
			resumed(code)
		}
		return code == api.OK
	case n.Kind == api.NoteWatch:
		part, code := g.hub.Watch(s, n.Conn, n.Watches[0], g.now)
		part.Id = n.Watches[0].Id
		if code == api.ErrSession {
			resumed(code)
			break
		}
		g.tells(from, api.Note{Kind: api.NoteWatched, Session: s, Conn: n.Conn, Stamp: g.hub.Last(), Code: code, Parts: []api.Part{part}})
	case n.Kind == api.NoteUnwatch:
		if code := g.hub.Unwatch(s, n.Conn, n.Watches[0].Id); code == api.ErrSession {
			resumed(code)
			break
		}
		g.tells(from, api.Note{Kind: api.NoteUnwatched, Session: s, Conn: n.Conn, Watches: n.Watches})
	case n.Kind == api.NoteTook:
		before := len(g.hub.Next(s, api.MaxQueue))
		if code := g.hub.Took(s, n.Conn, n.Stamp); code == api.ErrSession {
			resumed(code)
		}
		return len(g.hub.Next(s, api.MaxQueue)) < before
	}
	return false
}

func (g *again) opens(from, s int, here, willBe bool) {
	switch {
	case willBe && here:
		g.tells(from, api.Note{Kind: api.NoteOpened, Session: s})
	case willBe:
	case s > g.later().Newest(s%api.MaxSlots):
		g.proposes(api.Entry{Kind: api.EntryOpen, Session: s}, func() { g.where[s], g.ago[s] = from, 0 })
	case !here:
		g.tells(from, api.Note{Kind: api.NoteOpened, Session: s, Code: api.ErrOld})
	}
}

func (g *again) calls(from int, n api.Note) {
	behind := 0
	for i, e := range g.open {
		if e.Kind == api.EntryOpen && e.Session == n.Session {
			behind = i + 1
		}
	}
	greatest := 0
	for _, e := range g.open[behind:] {
		if e.Session == n.Session {
			greatest = max(greatest, e.Request)
		}
	}
	kept, reply, _ := g.now.Kept(n.Session)
	if greatest == 0 {
		greatest = kept
	}
	isOpen := slices.ContainsFunc(g.open, func(e api.Entry) bool { return e.Session == n.Session && e.Request == n.Request })
	if n.Request > greatest {
		g.proposes(api.Entry{Kind: api.EntryRequest, Session: n.Session, Request: n.Request, Ops: n.Ops}, nil)
	} else if n.Request == greatest && !isOpen && n.Request == kept {
		g.tells(from, api.Note{Kind: api.NoteAnswer, Session: n.Session, Request: n.Request, Reply: reply})
	}
}

func (g *again) proposes(e api.Entry, ahead func()) {
	_, act, code := g.core.Propose(e)
	if code != api.OK {
		return
	}
	if ahead != nil {
		ahead()
	}
	g.does(act)
}

func (g *again) tick() {
	g.does(g.core.Tick())
	if g.core.Active() && g.rules.Lease > 0 {
		for _, session := range g.now.Sessions() {
			g.ago[session]++
			if g.ago[session] > g.rules.Lease && g.willBe(session) {
				g.proposes(api.Entry{Kind: api.EntryExpire, Session: session}, nil)
			}
		}
	}
	g.delivers()
}

func (g *again) save() {
	g.writes(api.Record{Kind: api.RecordSave, Stamp: g.core.Commit(), Of: g.of(), State: g.now.Freeze()})
}

func (g *again) sight() api.Sight {
	s := api.Sight{Up: true, View: g.core.View(), Active: g.core.Active(), Commit: g.now.Last(), Last: g.now.Last() + len(g.open)}
	s.Floor = max(g.floor, g.now.Last()-g.rules.Ring)
	s.Sessions, _, s.Queued = g.hub.Sessions()
	return s
}

// call is a call of a server: kind is take, tick, save or start; that is over so many bytes of its journal.
type call struct {
	kind    string
	message api.Message
	size    int
}

func (x call) String() string {
	if x.kind == "take" {
		return "take" + tellMessages([]api.Message{x.message})
	}
	return fmt.Sprint(x.kind, " ", x.size)
}

// on makes the call of a server.
func (x call) on(n **node.Node, g *again) ([]byte, []api.Message) {
	switch x.kind {
	case "take":
		return (*n).Take(x.message)
	case "tick":
		return (*n).Tick()
	case "save":
		return (*n).Save()
	}
	var written []byte
	var sent []api.Message
	*n, written, sent, _ = node.Open(g.self, g.rules, g.disk[:x.size])
	return written, sent
}

// again makes it of the second reckoning.
func (x call) again(g *again) ([]byte, []api.Message) {
	switch x.kind {
	case "take":
		g.take(x.message)
	case "tick":
		g.tick()
	case "save":
		g.save()
	default:
		other, written, sent := startAgain(g.self, g.rules, g.disk[:x.size])
		*g = *other
		return written, sent
	}
	return g.ends(), g.sent()
}

// goesLike holds a call of a server against the second reckoning.
func goesLike(t *testing.T, n **node.Node, g *again, x call) {
	t.Helper()
	count := g.count
	if x.kind == "start" {
		count = 0
	}
	written, sent := x.on(n, g)
	wantWritten, wantSent := x.again(g)
	if !bytes.Equal(written, wantWritten) {
		t.Errorf("%s writes %s, want %s", x, tellBytes(count, written), tellBytes(count, wantWritten))
	}
	if !slices.Equal(sent, wantSent) {
		t.Errorf("%s sends %s, want %s", x, tellMessages(sent), tellMessages(wantSent))
	}
	looksLike(t, *n, g, x)
}

func looksLike(t *testing.T, n *node.Node, g *again, x call) {
	t.Helper()
	if got, want := n.Sight(), g.sight(); !sameSight(got, want) {
		t.Errorf("P14.8: behind %s Sight is %+v, want %+v", x, got, want)
	}
	if got, want := whole(n), whole(g.now); got != want {
		t.Errorf("P14.8: behind %s Part is %s, want %s", x, got, want)
	}
}

// toldLike holds what was played since it was asked last.
func toldLike(t *testing.T, n *node.Node, g *again) {
	t.Helper()
	if got := n.Played(); !sameEntries(got, g.fresh) {
		t.Errorf("P14.8: Played is %s, want %s", tell(got), tell(g.fresh))
	}
	g.fresh = nil
}
