package node_test

import (
	"fmt"
	"reflect"
	"slices"
	"testing"

	"herald/api"
	"herald/journal"
	"herald/node"
	"herald/note"
	"herald/state"
)

// page is an entry of a log with all that lies ahead of it: two logs that are the same end with the same page.
type page struct {
	before  *page
	stamp   int
	entry   api.Entry
	machine string // frozen, behind the entry
	reply   api.Reply
	changes []api.Change
	newest  [api.MaxSlots]int
	last    map[int]int // the last requests of the sessions that are open
}

// at is the page of a stamp, at or ahead of this one.
func (p *page) at(stamp int) *page {
	for p != nil && p.stamp > stamp {
		p = p.before
	}
	return p
}

func (p *page) isOpen(session int) bool {
	_, isOpen := p.last[session]
	return isOpen
}

// asked is the page of a session's request.
func (p *page) asked(session, request int) *page {
	for ; p != nil; p = p.before {
		if p.entry.Kind == api.EntryRequest && p.entry.Session == session && p.entry.Request == request {
			return p
		}
	}
	return nil
}

// spot is where a page stands: behind another one, with an entry that is told as a text.
type spot struct {
	before *page
	entry  string
}

// host is a server with its journal, and what is known of it by that.
type host struct {
	node   *node.Node // nil: it does not run
	self   int
	disk   []byte
	begin  int // so many bytes were laid down at its last start
	number int // of the journal's last record
	last   *page
	commit *page
	view   api.View
	told   int // up to which stamp Played was told
}

// play is a play of servers, as chapter 13 says.
type play struct {
	t         *testing.T
	c         chance
	rules     api.Rules
	hosts     []*host
	views     []api.View
	settled   bool // a NoteSettled of the last of them has come
	flying    []api.Message
	rest      int // so seldom does a server stop
	steps     int
	root      *page
	pages     map[spot]*page
	states    map[string]*page
	committed []*page
	seen      map[string]int
}

func startPlay(t *testing.T, c chance, servers int) *play {
	root := &page{machine: state.New().Freeze()}
	p := &play{t: t, c: c, root: root, pages: map[spot]*page{}, states: map[string]*page{"": root, root.machine: root}, committed: []*page{root}, seen: map[string]int{}, rest: 40}
	p.rules = api.Rules{Nodes: servers, Clients: 3, Queue: pick(c, 1, 2, 4), Ring: pick(c, 1, 2, 4, 8, 64), Window: pick(c, 1, 2, 4), Lease: pick(c, 0, 2, 6)}
	for i := range servers {
		h := &host{self: i + 1, last: root, commit: root}
		p.hosts = append(p.hosts, h)
		h.start(p)
	}
	p.addView(1, pick(c, 0, min(2, servers), min(2, servers)))
	return p
}

func (p *play) addView(primary, backup int) {
	if backup == primary {
		backup = 0
	}
	p.views = append(p.views, viewOf(len(p.views)+1, primary, backup))
	p.settled = false
}

func (p *play) now() api.View { return p.views[len(p.views)-1] }

// page is the one of an entry behind another page. A new one is held against P14.12: it was proposed behind just these.
func (p *play) page(before *page, e api.Entry) *page {
	at := spot{before, fmt.Sprint(e.Stamp, e.View, e.Kind, e.Session, e.Request, e.Ops)}
	if old := p.pages[at]; old != nil {
		return old
	}
	m, _ := state.Thaw(before.machine)
	reply, changes, code := m.Apply(e)
	if code != api.OK {
		p.t.Fatalf("P14.11: the entry %s can't be played: %d", tell(e), code)
	}
	q := &page{before: before, stamp: e.Stamp, entry: e, machine: m.Freeze(), reply: reply, changes: changes, newest: before.newest, last: map[int]int{}}
	slot := e.Session % api.MaxSlots
	switch {
	case e.Kind == api.EntryOpen && e.Session <= before.newest[slot]:
		p.t.Fatalf("P14.12: the session %d is opened, and %d was before", e.Session, before.newest[slot])
	case e.Kind != api.EntryOpen && !before.isOpen(e.Session):
		p.t.Fatalf("P14.12: the entry %s was proposed, and its session will not be open", tell(e))
	case e.Kind == api.EntryRequest && e.Request <= before.last[e.Session]:
		p.t.Fatalf("P14.12: the request %d of %d stands behind %d", e.Request, e.Session, before.last[e.Session])
	}
	q.newest[slot] = max(q.newest[slot], e.Session)
	for _, session := range m.Sessions() {
		q.last[session], _, _ = m.Kept(session)
	}
	p.pages[at] = q
	return q
}

// said is where a journal's log ends, and up to which page it is committed.
func (p *play) said(s api.Saved) (last, commit *page) {
	last = p.states[s.State]
	if last == nil || last.stamp != s.Stamp {
		p.t.Fatalf("P14.11: the state of the stamp %d is none that was played", s.Stamp)
	}
	for _, e := range s.Entries {
		last = p.page(last, e)
	}
	return last, last.at(s.Commit)
}

// start starts a server over its journal.
func (h *host) start(p *play) {
	said, _, size := journal.Recover(h.disk)
	n, whole, sent, code := node.Open(h.self, p.rules, h.disk)
	if code != api.OK {
		p.t.Fatalf("P14.10: Open of %d over its journal says %d", h.self, code)
	}
	if size < len(h.disk) {
		p.seen["torn"]++
	}
	short, number, _ := journal.Compact(said)
	h.node, h.disk, h.begin, h.number = n, short, len(whole), number
	h.last, h.commit = p.said(said)
	h.view, h.told = said.View, said.Stamp
	h.does(p, whole[len(short):], sent, -1)
}

// does is what an event of a server does; or, if it stops within, as many bytes of what it writes as are told.
func (h *host) does(p *play, written []byte, sent []api.Message, stop int) {
	if stop >= 0 {
		// Nobody has seen what it was then.
		h.disk = append(h.disk, written[:stop%(len(written)+1)]...)
		h.node = nil
		p.seen["stop"]++
		return
	}
	before := h.commit
	h.disk = append(h.disk, written...)
	records := recordsOf(h.number, written)
	for _, r := range records {
		h.follows(p, r)
	}
	h.number += len(records)
	p.flying = append(p.flying, sent...)
	h.holds(p)
	for _, m := range sent {
		h.holdsMessage(p, before, m)
	}
}

func (h *host) follows(p *play, r api.Record) {
	p.seen[fmt.Sprint("record ", r.Kind)]++
	switch r.Kind {
	case api.RecordView:
		h.view = r.View
	case api.RecordEntry:
		h.last = p.page(h.last, r.Entry)
		p.seen[fmt.Sprint("entry ", r.Entry.Kind)]++
	case api.RecordCommit:
		h.commit = h.last.at(r.Stamp)
	case api.RecordReset:
		h.last = p.states[r.State]
		h.commit, h.told = h.last, r.Stamp
	case api.RecordSave:
		if r.State != h.commit.machine || r.Stamp != h.commit.stamp || r.Of != h.commit.entry.View {
			p.t.Fatalf("P14.7: %d saves %d of %d, and is at %d of %d", h.self, r.Stamp, r.Of, h.commit.stamp, h.commit.entry.View)
		}
	}
	p.states[h.commit.machine] = h.commit
}

// holds: P14.10 and P14.11, of a server that runs.
func (h *host) holds(p *play) {
	s := h.node.Sight()
	if s.View != h.view || s.Commit != h.commit.stamp || s.Last != h.last.stamp {
		p.t.Fatalf("P14.10: %d shows %+v, its journal says %v, %d, %d", h.self, s, h.view, h.commit.stamp, h.last.stamp)
	}
	m, _ := state.Thaw(h.commit.machine)
	if whole(h.node) != whole(m) {
		p.t.Fatalf("P14.11: the tree of %d at %d is %s, want %s", h.self, s.Commit, whole(h.node), whole(m))
	}
	for len(p.committed) <= s.Commit {
		p.committed = append(p.committed, h.commit.at(len(p.committed)))
	}
	if p.committed[s.Commit] != h.commit {
		p.t.Fatalf("P14.11: two servers at %d have played other entries", s.Commit)
	}
	for _, e := range h.node.Played() {
		h.told++
		if at := h.commit.at(h.told); at.stamp != h.told || !reflect.DeepEqual(bare(at.entry), bare(e)) {
			p.t.Fatalf("P14.8: %d has played %s, want %s", h.self, tell(e), tell(at.entry))
		}
	}
	if h.told != s.Commit {
		p.t.Fatalf("P14.8: %d has told what it played up to %d, and is at %d", h.self, h.told, s.Commit)
	}
	for _, queued := range s.Queued {
		if queued > p.rules.Queue {
			p.t.Fatalf("P0.8: a queue holds %d items", queued)
		}
	}
	// It takes long, so it is not looked at each time.
	if p.c.IntN(6) == 0 {
		h.holdsJournal(p, len(h.disk))
		h.holdsJournal(p, h.begin+p.c.IntN(len(h.disk)-h.begin+1))
	}
}

// holdsJournal: P14.10, of so many bytes of a server's journal.
func (h *host) holdsJournal(p *play, size int) {
	said, records, counted := journal.Recover(h.disk[:size])
	last, commit := p.said(said)
	if size == len(h.disk) && (counted != size || records != h.number || said.View != h.view || last != h.last || commit != h.commit) {
		p.t.Fatalf("P14.10: the journal of %d says %s", h.self, tell(said))
	}
	twin, whole, _, code := node.Open(h.self, p.rules, h.disk[:size])
	if code != api.OK {
		p.t.Fatalf("P14.10: over %d of %d bytes Open says %d", size, len(h.disk), code)
	}
	if v := said.View; v.Primary == h.self && v.Backup == 0 {
		commit = last
	}
	s := twin.Sight()
	written, _ := twin.Save()
	again, _, _ := journal.Recover(append(whole, written...))
	if s.View != said.View || s.Commit != commit.stamp || s.Last != last.stamp || again.State != commit.machine || again.Matched != said.Matched {
		p.t.Fatalf("P14.10: over %d of %d bytes there is %+v, the journal says %s", size, len(h.disk), s, tell(said))
	}
	if size == len(h.disk) && (s.Commit != h.commit.stamp || s.Last != h.last.stamp) {
		p.t.Fatalf("P14.10: over all its bytes %d is at %d of %d", h.self, s.Commit, s.Last)
	}
}

// holdsMessage: P14.13, of what a server sends behind an event.
func (h *host) holdsMessage(p *play, before *page, m api.Message) {
	n, code := note.Open(m)
	if code != api.OK || m.From != h.self {
		p.t.Fatalf("P14.1: %d sends a message that is none: %d", h.self, code)
	}
	p.seen[fmt.Sprint("note ", n.Kind)]++
	isFit := true
	switch n.Kind {
	case api.NoteAnswer:
		at := h.commit.asked(n.Session, n.Request)
		isFit = at != nil && sameReply(at.reply, n.Reply)
	case api.NoteOpened:
		isFit = n.Code == api.OK && (h.commit.isOpen(n.Session) || h.hasOpened(before, n.Session)) || n.Code == api.ErrOld && !h.commit.isOpen(n.Session) && n.Session <= h.last.newest[n.Session%api.MaxSlots]
	case api.NoteGone:
		isFit = !h.commit.isOpen(n.Session)
	case api.NoteWatched:
		isFit = n.Stamp <= h.commit.stamp && (n.Code != api.OK || h.isShot(n.Parts[0].Shot))
	case api.NoteResumed:
		isFit = n.Stamp <= h.commit.stamp
	case api.NoteDeliver:
		isFit = !slices.ContainsFunc(n.Items, func(i api.Item) bool { return !h.isItem(p, i) })
	case api.NoteElsewhere:
		isFit = n.View == h.view && !h.node.Sight().Active
	}
	if m.To > 100 && n.Kind != api.NoteElsewhere && n.View.Num != h.view.Num {
		isFit = false
	}
	if !isFit {
		p.t.Fatalf("P14.13: %d, at %d of %d, sends %s", h.self, h.commit.stamp, h.last.stamp, tellNote(n))
	}
}

func sameReply(a, b api.Reply) bool { return fmt.Sprintf("%+v", a) == fmt.Sprintf("%+v", b) }

// hasOpened tells whether a session was opened by what was played behind a page.
func (h *host) hasOpened(before *page, session int) bool {
	for at := h.commit; at != nil && at != before; at = at.before {
		if at.entry.Kind == api.EntryOpen && at.entry.Session == session {
			return true
		}
	}
	return false
}

// isShot tells whether a shot is the tree's part at its stamp, and that is one that was played.
func (h *host) isShot(s api.Shot) bool {
	if s.Stamp > h.commit.stamp {
		return false
	}
	m, _ := state.Thaw(h.commit.at(s.Stamp).machine)
	shot, _ := m.Part(s.Place, s.Kind)
	return fmt.Sprint(shot) == fmt.Sprint(s)
}

// isItem tells whether an item is of an entry that was played, or shows the tree as it was then.
func (h *host) isItem(p *play, i api.Item) bool {
	if i.Stamp > h.commit.stamp {
		return false
	}
	if i.Marker {
		p.seen["marker"]++
		return !slices.ContainsFunc(i.Parts, func(part api.Part) bool { return part.Shot.Stamp != i.Stamp || !h.isShot(part.Shot) })
	}
	changes := h.commit.at(i.Stamp).changes
	return !slices.ContainsFunc(i.Changes, func(c api.Tagged) bool { return !slices.Contains(changes, c.Change) })
}
