package pair_test

import (
	"slices"
	"testing"

	"herald/api"
	"herald/pair"
)

// again is a core by other means: what its journal says, out of which the log and the commit are read every time anew, and what a primary knows of its view.
type again struct {
	self, room int
	said       api.Saved
	peer       int // -1: unknown
	base       int
	active     bool

	act  pair.Act    // the one that is being made
	ways []api.Saved // what the journal said ahead of the last act, and behind each of its records
}

func (g *again) last() int { return g.said.Stamp + len(g.said.Entries) }

func (g *again) floor() int { return max(g.said.Stamp, g.last()-g.room) }

// viewAt is the view of the entry with a stamp from where the journal begins to the last.
func (g *again) viewAt(stamp int) int {
	if stamp == g.said.Stamp {
		return g.said.Of
	}
	return g.said.Entries[stamp-g.said.Stamp-1].View
}

// from are the entries above a stamp.
func (g *again) from(stamp int) []api.Entry { return g.said.Entries[stamp-g.said.Stamp:] }

func (g *again) isBackup() bool { return g.said.View.Backup == g.self }
func (g *again) isAlone() bool  { return g.said.View.Primary == g.self && g.said.View.Backup == 0 }
func (g *again) isPaired() bool { return g.said.View.Primary == g.self && g.said.View.Backup != 0 }

// write lets the journal say what a record says.
func (g *again) write(r api.Record) {
	if len(g.act.Records) == 0 {
		g.ways = []api.Saved{g.said}
	}
	defer func() { g.ways = append(g.ways, g.said) }()
	s := &g.said
	switch r.Kind {
	case api.RecordEntry:
		s.Entries = append(slices.Clone(s.Entries), r.Entry)
	case api.RecordView:
		s.View = r.View
	case api.RecordMatched:
		s.Matched = r.View.Num
	case api.RecordCommit:
		s.Commit = r.Stamp
	case api.RecordReset:
		*s = api.Saved{View: s.View, Matched: r.View.Num, Stamp: r.Stamp, Of: r.Of, State: r.State, Commit: r.Stamp}
	}
	g.act.Records = append(g.act.Records, r)
}

func (g *again) send(to int, n api.Note) {
	g.act.Notes = append(g.act.Notes, pair.Out{To: to, Note: n})
}

// done is the act that was made.
func (g *again) done() pair.Act {
	act := g.act
	g.act = pair.Act{}
	return act
}

func (g *again) num() int { return g.said.View.Num }

func (g *again) join() {
	g.send(g.said.View.Primary, join(g.num(), g.last(), g.viewAt(g.last())))
}

func (g *again) appends() {
	entries := g.from(g.peer)
	g.send(g.said.View.Backup, appends(g.num(), g.peer, g.viewAt(g.peer), g.said.Commit, entries[:min(16, len(entries))]...))
}

func (g *again) settles() {
	g.active = true
	g.send(0, noteOf(api.NoteSettled, g.num()))
}

// begins: P13.3.
func (g *again) begins() {
	g.peer, g.base, g.active = -1, 0, false
	if g.isBackup() {
		g.join()
	}
	if g.isPaired() {
		g.base = g.last()
		g.send(g.said.View.Backup, probe(g.num()))
	}
	if g.isAlone() {
		if g.said.Commit < g.last() {
			g.write(commit(g.last()))
		}
		g.settles()
	}
}

// startAgain: P13.1, of what may be.
func startAgain(self, room int, s api.Saved) (*again, pair.Act) {
	g := &again{self: self, room: room, said: s}
	g.begins()
	return g, g.done()
}

// adopts: P13.2.
func (g *again) adopts(v api.View) pair.Act {
	isNode := func(number int) bool { return slices.Contains([]int{1, 2, 3, 4, 5}, number) }
	if v.Num > g.num() && v.Num <= 2147483647 && isNode(v.Primary) && (isNode(v.Backup) || v.Backup == 0) && v.Primary != v.Backup {
		g.write(view(v.Num, v.Primary, v.Backup))
		g.begins()
	}
	return g.done()
}

// proposes: P13.4.
func (g *again) proposes(e api.Entry) (int, pair.Act, api.Errno) {
	open := len(g.from(g.said.Commit))
	switch {
	case !g.active:
		return 0, pair.Act{}, api.ErrInactive
	case g.last() == 2147483647:
		return 0, pair.Act{}, api.ErrNumber
	case open >= 32 || open >= g.room:
		return 0, pair.Act{}, api.ErrBusy
	}
	g.write(entry(placed(e, g.last()+1, g.num())))
	if g.isAlone() {
		g.write(commit(g.last()))
	} else {
		g.appends()
	}
	return g.last(), g.done(), api.OK
}

// takes: P13.5.
func (g *again) takes(from int, n api.Note) pair.Act {
	v := g.said.View
	if n.View.Num != v.Num {
		return g.done()
	}
	switch {
	case g.isBackup() && from == v.Primary && n.Kind == api.NoteProbe:
		g.join()
	case g.isBackup() && from == v.Primary && n.Kind == api.NoteAppend:
		g.hearsAppend(n)
	case g.isBackup() && from == v.Primary && n.Kind == api.NoteFull:
		g.hearsFull(n)
	case g.isPaired() && from == v.Backup && n.Kind == api.NoteAcked:
		if g.floor() <= n.Stamp && n.Stamp <= g.last() {
			g.hearsOf(n.Stamp)
		}
	case g.isPaired() && from == v.Backup && n.Kind == api.NoteJoin:
		if g.floor() <= n.Stamp && n.Stamp <= g.last() && g.viewAt(n.Stamp) == n.Of {
			g.hearsOf(n.Stamp)
		} else if g.peer < 0 {
			g.act.Want = append(g.act.Want, v.Backup)
		}
	}
	return g.done()
}

func (g *again) hearsAppend(n api.Note) {
	isMatched := g.said.Matched == g.num()
	counts := isMatched && n.Stamp >= 0 && n.Stamp <= g.last() || !isMatched && n.Stamp == g.last() && n.Of == g.viewAt(g.last())
	for i := range n.Entries {
		counts = counts && n.Entries[i].Stamp == n.Stamp+i+1 && n.Entries[i].View <= g.num()
	}
	if !counts {
		return
	}
	if !isMatched {
		g.write(matched(g.num()))
	}
	g.hearsCommit(n.Commit)
	for _, e := range n.Entries {
		// An entry that the log refuses leaves a gap, so that none behind it is the next one.
		isNext := e.Stamp == g.last()+1 && e.Stamp <= 2147483647
		hasRoom := g.last()+1-g.said.Commit <= g.room
		if isNext && hasRoom && e.View >= g.viewAt(g.last()) {
			g.write(entry(e))
		}
	}
	g.hearsCommit(n.Commit)
	g.send(g.said.View.Primary, acked(g.num(), g.last()))
}

func (g *again) hearsCommit(stamp int) {
	if stamp > g.last() {
		stamp = g.last()
	}
	if stamp > g.said.Commit {
		g.write(commit(stamp))
	}
}

func (g *again) hearsFull(n api.Note) {
	if n.Stamp < 0 || n.Stamp > 2147483647 || n.Of < 0 || n.Of > g.num() || len(n.State) > 200000 {
		return
	}
	if g.said.Matched != g.num() || n.Stamp > g.last() {
		g.write(reset(g.num(), n.Stamp, n.Of, n.State))
	}
	g.send(g.said.View.Primary, acked(g.num(), g.last()))
}

// hearsOf: the backup has a stamp.
func (g *again) hearsOf(stamp int) {
	was := g.peer
	if was < 0 || was < stamp {
		g.peer = stamp
	}
	if g.peer > g.said.Commit {
		g.write(commit(g.peer))
	}
	if !g.active && g.peer >= g.base {
		g.settles()
	}
	if (was < 0 || g.peer > was) && g.peer < g.last() {
		g.appends()
	}
}

// ticks: P13.6.
func (g *again) ticks() pair.Act {
	g.send(0, api.Note{Kind: api.NoteAsk})
	if g.active {
		g.settles()
	}
	switch {
	case g.isBackup() && g.said.Matched != g.num():
		g.join()
	case g.isPaired() && g.peer < 0:
		g.send(g.said.View.Backup, probe(g.num()))
	case g.isPaired():
		g.appends()
	}
	return g.done()
}

// look is what a core shows that is like this one.
func (g *again) look() look {
	l := look{view: g.said.View, active: g.active, commit: g.said.Commit, floor: g.floor(), of: g.viewAt(g.floor())}
	for _, e := range g.from(g.floor()) {
		l.entries = append(l.entries, bare(e))
	}
	l.tick = tidy(g.ticks())
	return l
}

// call is one call of a core; a start is one over what its journal says, or would say without the last records.
type call struct {
	kind  string
	said  api.Saved
	view  api.View
	entry api.Entry
	from  int
	note  api.Note
}

// answer is what a call answers.
type answer struct {
	stamp int
	act   pair.Act
	code  api.Errno
}

func (a answer) is(b answer) bool {
	return a.stamp == b.stamp && a.code == b.code && sameAct(a.act, b.act)
}

// on makes a call. A core that is started takes the place of the one that was.
func (x call) on(c **pair.Core, g *again) answer {
	var a answer
	switch x.kind {
	case "start":
		*c, a.act, a.code = pair.New(g.self, g.room, x.said)
	case "adopt":
		a.act = (*c).Adopt(x.view)
	case "propose":
		a.stamp, a.act, a.code = (*c).Propose(x.entry)
	case "take":
		a.act = (*c).Take(x.from, x.note)
	case "tick":
		a.act = (*c).Tick()
	}
	return a
}

func (x call) again(g *again) answer {
	var a answer
	switch x.kind {
	case "start":
		g.said, g.ways = x.said, nil
		g.begins()
		a.act = g.done()
	case "adopt":
		a.act = g.adopts(x.view)
	case "propose":
		a.stamp, a.act, a.code = g.proposes(x.entry)
	case "take":
		a.act = g.takes(x.from, x.note)
	case "tick":
		a.act = g.ticks()
	}
	return a
}

// goesLike makes a call of both, and holds that they answer alike and look alike behind it.
func goesLike(t *testing.T, c **pair.Core, g *again, x call) answer {
	t.Helper()
	before := *g
	got := x.on(c, &before)
	want := x.again(g)
	if !got.is(want) {
		t.Fatalf("P13.1 to P13.6: of %s in %s\n%s answers\n%s, want\n%s", tell(before.said), tell(before.said.View), tell(x), tell(got), tell(want))
	}
	if l := lookAt(t, *c); !l.is(g.look()) || t.Failed() {
		t.Fatalf("P13.7: of %s behind\n%s there stands\n%s, want\n%s", tell(before.said), tell(x), tell(l), tell(g.look()))
	}
	return want
}

// started is a core and its like over what a journal says.
func started(t *testing.T, self, room int, s api.Saved) (*pair.Core, *again) {
	t.Helper()
	c, got, code := pair.New(self, room, s)
	g, want := startAgain(self, room, s)
	if c == nil || code != api.OK {
		t.Fatalf("P13.1: New(%d, %d, %s) = %v, %d", self, room, tell(s), c != nil, code)
	}
	acts(t, "P13.1: New", got, want)
	if l := lookAt(t, c); !l.is(g.look()) {
		t.Fatalf("P13.1: New(%d, %d, %s) stands as %s", self, room, tell(s), tell(l))
	}
	return c, g
}
