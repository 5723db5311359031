package audit_test

import (
	"fmt"
	"slices"
	"testing"

	"herald/api"
	"herald/audit"
	"herald/journal"
	"herald/node"
	"herald/note"
	"herald/world"
)

// witness holds a world, step by step, against the promises of the whole. What the clients were told is held by Check: by the history as it is at each telling.
type witness struct {
	t     *testing.T
	w     *world.World
	rules api.Rules
	steps int
	truth *truth
	told  []api.Told
	hosts []host // by the nodes' numbers
	last  int    // the number of the last message that was ever in flight
	seen  map[string]int
}

// host is what is to be known of a node.
type host struct {
	sight api.Sight
	marks []mark       // one behind each event since its last start
	acked map[int]ack  // by the stamps of the entries
	full  map[int]bool // the sessions in whose queues a marker may be
}

// ack is an entry that a node has acknowledged, and the last view in which it did so.
type ack struct {
	entry api.Entry
	view  int
}

// mark is how a node stood when its disk was so long.
type mark struct {
	size, commit, last int
	view               api.View
	tree               []api.Seen
}

func witnessOf(t *testing.T, rules api.Rules, seen map[string]int) *witness {
	t.Helper()
	w, code := world.New(rules)
	if code != api.OK {
		t.Fatalf("P17.1: New(%+v) says %d", rules, code)
	}
	x := &witness{t: t, w: w, rules: rules, truth: newTruth(), hosts: make([]host, rules.Nodes+1), seen: seen}
	for i := 1; i <= rules.Nodes; i++ {
		x.hosts[i] = host{acked: map[int]ack{}, full: map[int]bool{}}
		x.lookAt(i, stepOf(api.StepRestart, i), nil)
	}
	return x
}

// play plays a step, and holds all that is seen behind it against the promises.
func (x *witness) play(s api.Step) api.Errno {
	x.t.Helper()
	came := x.coming(s)
	told, code := x.w.Step(s)
	x.readHistory()
	for _, t := range told {
		x.isMadeAnew(t)
		x.seen[fmt.Sprintf("told %d", t.Kind)]++
	}
	if x.told = append(x.told, told...); len(told) > 0 {
		x.isTrue()
	}
	x.steps++
	for i := 1; i <= x.rules.Nodes && code == api.OK; i++ {
		x.lookAt(i, s, came)
	}
	x.lookAtFlight(s)
	x.lookAtPictures()
	x.seen[fmt.Sprintf("step %d %d", s.Kind, code)]++
	return code
}

// coming is the message that a step lets arrive.
func (x *witness) coming(s api.Step) *api.Message {
	_, messages := x.w.Flight()
	if s.Kind != api.StepDeliver && s.Kind != api.StepWithin || len(messages) == 0 {
		return nil
	}
	return &messages[(s.A%len(messages)+len(messages))%len(messages)]
}

// readHistory: P0.1.
func (x *witness) readHistory() {
	x.t.Helper()
	now, was := x.w.History(), x.truth.history
	if len(now) < len(was) || !same(now[:len(was)], was) {
		x.t.Fatalf("P0.1: the history %s became %s", tell(was), tell(now))
	}
	for _, e := range now[len(was):] {
		if !x.truth.play(e) {
			x.t.Fatalf("P0.1: the entry %s stands at the place %d of the history", tell(e), len(x.truth.history)+1)
		}
		x.seen[fmt.Sprintf("entry %d", e.Kind)]++
	}
}

// isMadeAnew: P0.2, a request that is made is not in the history.
func (x *witness) isMadeAnew(t api.Told) {
	x.t.Helper()
	isOf := func(e api.Entry) bool {
		return e.Kind == api.EntryRequest && e.Session == t.Session && e.Request == t.Request
	}
	if t.Kind == api.ToldCall && slices.ContainsFunc(x.truth.history, isOf) {
		x.t.Errorf("P0.2: the request %d.%d was in the history when it was made", t.Session, t.Request)
	}
}

// isTrue: P19.5, and with it P0.2 to P0.4 and P0.6 of all that was told so far.
func (x *witness) isTrue() {
	x.t.Helper()
	if _, code := audit.Model(x.truth.history); code != api.OK {
		x.t.Errorf("P0.1: Model says %d of the history", code)
	}
	if code, at := audit.Check(x.truth.history, x.told); code != api.OK || at != 0 {
		x.t.Errorf("P19.5: Check says %d, %d, where is told %s", code, at, tell(x.told[at:]))
	}
}

// sessionNow is the session that a client has (0: none), with all that was told of it.
func (x *witness) sessionNow(client int) (int, []api.Told) {
	session := 0
	for _, t := range x.told {
		switch {
		case t.Client != client:
		case t.Kind == api.ToldBegin:
			session = t.Session
		case t.Kind == api.ToldEnd || t.Kind == api.ToldGone:
			session = 0
		}
	}
	return session, sessionOf(x.told, api.Told{Client: client, Session: session})
}

// isAsking tells whether a session has a request without its reply.
func isAsking(told []api.Told) bool {
	calls, replies := 0, 0
	for _, t := range told {
		switch t.Kind {
		case api.ToldCall:
			calls++
		case api.ToldReply:
			replies++
		}
	}
	return calls > replies
}

// lookAtPictures: P0.5.
func (x *witness) lookAtPictures() {
	x.t.Helper()
	for i := 1; i <= x.rules.Clients; i++ {
		_, told := x.sessionNow(i)
		watches, last := watchesBehind(told), lastBehind(told)
		pictures, code := x.w.Pictures(i)
		if code != api.OK || len(pictures) != len(watches) {
			x.t.Fatalf("P17.7: the client %d has the watches %s and sees %s, %d", i, tell(watches), tell(pictures), code)
		}
		for k, p := range pictures {
			w := watches[k]
			want, isThere := x.truth.part(api.Shot{Stamp: max(last, w.From), Place: w.Place, Kind: w.Kind})
			if !isThere || p.Id != w.Id || p.Shot.Place != w.Place || p.Shot.Kind != w.Kind || !same(p.Shot.Nodes, want) {
				x.t.Errorf("P0.5: at %d, the client %d sees %s, want %s", last, i, tell(p), tell(want))
			}
		}
	}
}

// seesAsClients: P0.5 and P19.3, by what was told alone a client sees what it sees.
func (x *witness) seesAsClients() {
	x.t.Helper()
	for i := 1; i <= x.rules.Clients; i++ {
		session, _ := x.sessionNow(i)
		pictures, _ := x.w.Pictures(i)
		again := audit.Pictures(x.truth.history, x.told, i, session)
		if session == 0 {
			continue
		}
		if len(pictures) != len(again) {
			x.t.Errorf("P19.3: the client %d sees %s, by what it was told %s", i, tell(pictures), tell(again))
		}
		for _, p := range pictures {
			if !same(p.Shot.Nodes, again[p.Id].Nodes) || p.Shot.Stamp < again[p.Id].Stamp {
				x.t.Errorf("P19.3: the client %d sees %s, by what it was told %s", i, tell(p), tell(again[p.Id]))
			}
			x.seen["seen"]++
		}
	}
}

// lookAt looks at a node behind a step in which a message may have come.
func (x *witness) lookAt(i int, s api.Step, came *api.Message) {
	x.t.Helper()
	h := &x.hosts[i]
	before := h.sight
	h.sight, _ = x.w.Sight(i)
	x.isBound(i)
	if !h.sight.Up {
		return
	}
	disk, _ := x.w.Disk(i)
	tree, code := x.w.Part(i, "/", api.WatchSubtree)
	if code != api.OK || tree.Stamp != h.sight.Commit || !x.truth.isPart(tree) {
		x.t.Fatalf("P0.1: the node %d with the commit %d shows the tree %s, %d", i, h.sight.Commit, tell(tree), code)
	}
	if s.Kind == api.StepRestart && s.A == i {
		h.marks, h.full = nil, map[int]bool{}
		x.hasAcked(i, disk)
	}
	if len(h.marks) == 0 || h.marks[len(h.marks)-1].size != len(disk) {
		h.marks = append(h.marks, mark{len(disk), h.sight.Commit, h.sight.Last, h.sight.View, tree.Nodes})
	}
	x.mayMark(i, before, s, came)
}

// isBound: P0.8.
func (x *witness) isBound(i int) {
	x.t.Helper()
	s := x.hosts[i].sight
	for _, items := range s.Queued {
		if items > x.rules.Queue {
			x.t.Errorf("P0.8: a queue of the node %d holds %d items", i, items)
		}
	}
	if s.Commit-s.Floor > x.rules.Ring || s.Last-s.Commit > x.rules.Ring || s.Commit > s.Last {
		x.t.Errorf("P0.8: the node %d keeps the entries from %d on, has %d committed, and %d in all", i, s.Floor, s.Commit, s.Last)
	}
}

// mayMark finds where a marker may come into a queue of a node (P0.7): where it was full, or somebody came back with a stamp below the floor.
func (x *witness) mayMark(i int, before api.Sight, s api.Step, came *api.Message) {
	h := &x.hosts[i]
	for k, session := range before.Sessions {
		if before.Queued[k]+h.sight.Commit-before.Commit > x.rules.Queue {
			h.full[session] = true
		}
	}
	for k, session := range h.sight.Sessions {
		switch {
		case s.Kind == api.StepCalm: // what happens in it is not seen one by one
			h.full[session] = true
		case h.sight.Queued[k] == 0:
			h.full[session] = false
		}
	}
	if came == nil || came.To != i {
		return
	}
	n, code := note.Open(*came)
	if code != api.OK || n.Kind != api.NoteResume {
		return
	}
	missed := 0
	for z := n.Stamp + 1; z <= h.sight.Commit; z++ {
		if len(x.truth.eventAt(z, n.Watches)) > 0 {
			missed++
		}
	}
	if n.Stamp < h.sight.Floor || missed > x.rules.Queue {
		h.full[n.Session] = true
	}
}

// lookAtFlight: P0.7 and P0.8, of what has been sent since; and what was acknowledged is remembered.
func (x *witness) lookAtFlight(s api.Step) {
	x.t.Helper()
	numbers, messages := x.w.Flight()
	for k, m := range messages {
		if numbers[k] <= x.last || s.Kind == api.StepDouble {
			continue
		}
		n, code := note.Open(m)
		if code != api.OK || len(m.Bytes) > api.MaxFrame {
			x.t.Errorf("P0.8: a message has %d bytes, and Open says %d", len(m.Bytes), code)
		}
		if n.Kind == api.NoteDeliver && n.Items[0].Marker && s.Kind != api.StepCalm && !x.hosts[m.From].full[n.Session] {
			x.t.Errorf("P0.7: the node %d sends the session %d a marker", m.From, n.Session)
		}
		if n.Kind == api.NoteAcked {
			x.acknowledges(m.From, n)
		}
	}
	if len(numbers) > 0 {
		x.last = max(x.last, numbers[len(numbers)-1])
	}
}

func (x *witness) acknowledges(i int, n api.Note) {
	disk, _ := x.w.Disk(i)
	said, _, _ := journal.Recover(disk)
	for _, e := range said.Entries {
		if e.Stamp <= n.Stamp {
			x.hosts[i].acked[e.Stamp] = ack{e, n.View.Num}
		}
	}
}

// hasAcked: P0.10, a node that was started has all that it ever acknowledged; but what it acknowledged in an earlier view may have given way to a full transfer of its view's primary, who has it then.
func (x *witness) hasAcked(i int, disk []byte) {
	x.t.Helper()
	said, _, size := journal.Recover(disk)
	if size != len(disk) {
		x.t.Errorf("P0.10: of the %d bytes of the node %d only %d are whole records", len(disk), i, size)
	}
	for stamp, a := range x.hosts[i].acked {
		if has(said, a.entry) {
			continue
		}
		primary := said.View.Primary
		disk, _ := x.w.Disk(primary)
		others, _, _ := journal.Recover(disk)
		isReset := a.view < said.View.Num && said.Matched == said.View.Num && primary != i
		if !isReset || !has(others, a.entry) {
			x.t.Errorf("P0.10: the node %d has acknowledged %s in the view %d, and is started with no more than %d", i, tell(a.entry), a.view, x.hosts[i].sight.Last)
		}
		delete(x.hosts[i].acked, stamp)
	}
}

// has tells whether a journal has an entry, in its log or below that.
func has(said api.Saved, e api.Entry) bool {
	at := e.Stamp - said.Stamp - 1
	return at < 0 || at < len(said.Entries) && same(said.Entries[at], e)
}

// lookAtJournal: P0.10, a node that is started over a beginning of its journal is as the last whole record there says.
func (x *witness) lookAtJournal(c chance, i int) {
	x.t.Helper()
	disk, _ := x.w.Disk(i)
	marks := x.hosts[i].marks
	at := c.IntN(len(marks))
	m, next := marks[at], len(disk)
	if at+1 < len(marks) {
		next = marks[at+1].size
	}
	if at+1 == len(marks) && next != m.size && x.hosts[i].sight.Up {
		x.t.Errorf("P0.10: the disk of the node %d has %d bytes, and had %d behind its last event", i, next, m.size)
	}
	n, _, _, code := node.Open(i, x.rules, disk[:m.size])
	if code != api.OK {
		x.t.Fatalf("P0.10: over %d bytes of the node %d Open says %d", m.size, i, code)
	}
	s := n.Sight()
	tree, _ := n.Part("/", api.WatchSubtree)
	if s.View != m.view || s.Commit != m.commit || s.Last != m.last || !same(tree.Nodes, m.tree) {
		x.t.Errorf("P0.10: over %d bytes the node %d shows %s, and was %s", m.size, i, tell(s), tell(m))
	}
	if cut := m.size + c.IntN(next-m.size+1); cut < next { // a record is whole or not there at all
		said, _, whole := journal.Recover(disk[:cut])
		n, _, _, code := node.Open(i, x.rules, disk[:cut])
		if whole < m.size || whole > cut || code != api.OK || n.Sight().View != said.View || n.Sight().Last != said.Stamp+len(said.Entries) {
			x.t.Errorf("P0.10: over %d bytes, of which %d are whole records, Open says %d and shows %s", cut, whole, code, tell(n.Sight()))
		}
	}
}

// isRestless tells what of P0.9 does not hold.
func (x *witness) isRestless() string {
	if x.play(stepOf(api.StepPromote, 0, 0)) != api.ErrView {
		return "the view is not settled"
	}
	primary := x.hosts[x.now().Primary].sight
	for _, i := range x.members() {
		s := x.hosts[i].sight
		if s.View != x.now() || s.Commit != s.Last || s.Commit != len(x.truth.history) {
			return fmt.Sprintf("the node %d has %d of %d committed, of a history of %d", i, s.Commit, s.Last, len(x.truth.history))
		}
	}
	for i := 1; i <= x.rules.Clients; i++ {
		session, told := x.sessionNow(i)
		if at := slices.Index(primary.Sessions, session); session != 0 && at >= 0 && primary.Queued[at] != 0 {
			return fmt.Sprintf("the session %d has %d items in its queue", session, primary.Queued[at])
		}
		if session == 0 || !slices.Contains(x.truth.machine.Sessions(), session) {
			continue
		}
		if isAsking(told) {
			return fmt.Sprintf("the client %d has no reply", i)
		}
		pictures, _ := x.w.Pictures(i)
		for _, p := range pictures {
			if tree, _ := x.w.Part(x.now().Primary, p.Shot.Place, p.Shot.Kind); !same(p.Shot.Nodes, tree.Nodes) {
				return fmt.Sprintf("the client %d sees %s, and there is %s", i, tell(p), tell(tree))
			}
		}
	}
	return ""
}

// now is the present view; members are its nodes.
func (x *witness) now() api.View {
	views := x.w.Views()
	return views[len(views)-1]
}

func (x *witness) members() []int {
	if v := x.now(); v.Backup != 0 {
		return []int{v.Primary, v.Backup}
	}
	return []int{x.now().Primary}
}

// calm lets the members of the present view run, and holds P0.9; with a lease a session may come to its end in the last rounds.
func (x *witness) calm() {
	x.t.Helper()
	for _, i := range x.members() {
		if !x.hosts[i].sight.Up {
			x.play(stepOf(api.StepRestart, i))
		}
	}
	isAsked := false
	for i := 1; i <= x.rules.Clients; i++ {
		session, told := x.sessionNow(i)
		isAsked = isAsked || session != 0 && isAsking(told)
	}
	x.play(stepOf(api.StepCalm, 24))
	if isAsked {
		x.play(stepOf(api.StepCalm, 1))
	}
	why := x.isRestless()
	for range 4 {
		if why == "" || x.rules.Lease == 0 {
			break
		}
		x.play(stepOf(api.StepCalm, 1))
		why = x.isRestless()
	}
	if why != "" {
		x.t.Errorf("P0.9: %s", why)
	}
}
