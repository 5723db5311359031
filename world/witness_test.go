package world_test

import (
	"fmt"
	"slices"
	"testing"

	"herald/api"
	"herald/journal"
	"herald/node"
	"herald/note"
	"herald/place"
	"herald/state"
	"herald/world"
)

// spot is a part of the tree that may be watched.
type spot struct {
	place string
	kind  int
}

// witness holds a world, step by step, against the promises of the whole: by what its faces tell alone, and a plain machine that plays the history.
type witness struct {
	t       *testing.T
	w       *world.World
	rules   api.Rules
	steps   int
	history []api.Entry
	machine *state.Machine // it has played the history
	replies []api.Reply    // by stamps, as the next two are
	changes [][]api.Change
	parts   []map[spot]api.Shot
	asked   map[[2]int]int // how often a request (session, number) stands in the history
	guests  []guest        // by their numbers, as the next one
	hosts   []host
	newest  int // the number of the last message that was ever in flight
	seen    map[string]int
}

// guest is what is to be known of a client by what it was told.
type guest struct {
	session int // that it has: 0, none
	isOpen  bool
	last    int         // the stamp of the last item
	asked   [2]int      // the session and the number of the request that has no reply as yet
	ops     []api.Op    // of it
	before  int         // so long was the history when it was made
	watches []api.Watch // those that are granted, as they were granted
}

// host is what is to be known of a node.
type host struct {
	sight api.Sight
	marks []mark       // one behind each event since its last start
	acked map[int]ack  // by their stamps
	full  map[int]bool // the sessions in whose queues a marker may be
}

// ack is an entry that a node has acknowledged, and the last view in which it did so.
type ack struct {
	entry api.Entry
	view  int
}

// mark is how a node stood when its disk was so long.
type mark struct {
	size, commit, last int
	view               api.View
	tree               []api.Seen
}

func witnessOf(t *testing.T, rules api.Rules, seen map[string]int) *witness {
	t.Helper()
	x := &witness{t: t, w: begun(t, rules), rules: rules, machine: state.New(), asked: map[[2]int]int{}, seen: seen}
	x.guests, x.hosts = make([]guest, rules.Clients+1), make([]host, rules.Nodes+1)
	x.learn(api.Reply{}, nil)
	for i := 1; i <= rules.Nodes; i++ {
		x.hosts[i] = host{acked: map[int]ack{}, full: map[int]bool{}}
		x.lookAt(i, api.Step{Kind: api.StepRestart, A: i}, nil)
	}
	return x
}

// learn puts what an entry did behind the others.
func (x *witness) learn(reply api.Reply, changes []api.Change) {
	parts := map[spot]api.Shot{}
	for _, at := range somePlaces {
		for kind := api.WatchNode; kind <= api.WatchSubtree; kind++ {
			parts[spot{at, kind}], _ = x.machine.Part(at, kind)
		}
	}
	x.replies, x.changes, x.parts = append(x.replies, reply), append(x.changes, changes), append(x.parts, parts)
}

// play plays a step, and holds all that is seen behind it against the promises.
func (x *witness) play(s api.Step) api.Errno {
	x.t.Helper()
	came := x.coming(s)
	told, code := x.w.Step(s)
	x.readHistory()
	for _, k := range told {
		if k.Step != x.steps || k.Client < 1 || k.Client > x.rules.Clients {
			x.t.Fatalf("P17.5: the step %d tells %s", x.steps, tell(k))
		}
		x.hears(&x.guests[k.Client], k)
		x.seen[fmt.Sprintf("told %d", k.Kind)]++
	}
	x.steps++
	for i := 1; i <= x.rules.Nodes; i++ {
		if code == api.OK {
			x.lookAt(i, s, came)
		}
	}
	x.lookAtFlight(s)
	x.lookAtPictures()
	x.seen[fmt.Sprintf("step %d %d", s.Kind, code)]++
	return code
}

// coming is the message that a step lets arrive.
func (x *witness) coming(s api.Step) *api.Message {
	_, messages := x.w.Flight()
	if s.Kind != api.StepDeliver && s.Kind != api.StepWithin || len(messages) == 0 {
		return nil
	}
	return &messages[(s.A%len(messages)+len(messages))%len(messages)]
}

// readHistory: P0.1 and P0.3.
func (x *witness) readHistory() {
	x.t.Helper()
	now := x.w.History()
	if len(now) < len(x.history) || !same(now[:len(x.history)], x.history) {
		x.t.Fatalf("P0.1: the history %s became %s", tell(x.history), tell(now))
	}
	for i, e := range now[len(x.history):] {
		if e.Stamp != len(x.history)+i+1 {
			x.t.Fatalf("P0.1: the stamp %d stands at the place %d of the history", e.Stamp, len(x.history)+i+1)
		}
		if e.Kind == api.EntryRequest {
			x.asked[[2]int{e.Session, e.Request}]++
			if x.asked[[2]int{e.Session, e.Request}] > 1 {
				x.t.Errorf("P0.3: the request %d of the session %d stands twice in the history", e.Request, e.Session)
			}
		}
		reply, changes, code := x.machine.Apply(e)
		if code != api.OK {
			x.t.Fatalf("P0.1: the machine refuses the entry %s with %d", tell(e), code)
		}
		x.learn(reply, changes)
		x.seen[fmt.Sprintf("entry %d", e.Kind)]++
	}
	x.history = now
}

// hears holds what a client was told against the history: P0.2 to P0.6.
func (x *witness) hears(g *guest, k api.Told) {
	x.t.Helper()
	switch k.Kind {
	case api.ToldBegin:
		*g = guest{session: k.Session}
	case api.ToldGone:
		*g = guest{}
	case api.ToldEnd:
		*g = guest{session: k.Session}
	case api.ToldBegun:
		g.isOpen = true
	case api.ToldCall:
		g.asked, g.ops, g.before = [2]int{k.Session, k.Request}, k.Ops, len(x.history)
	case api.ToldReply:
		x.hearsReply(g, k)
	case api.ToldWatched:
		x.hearsGrant(g, k)
	case api.ToldUnwatch:
		g.watches = slices.DeleteFunc(g.watches, func(v api.Watch) bool { return v.Id == k.Watch.Id })
	case api.ToldItem:
		x.hearsItem(g, k.Item)
	}
	if k.Session != g.session && k.Kind != api.ToldGone {
		x.t.Errorf("P17.5: a client with the session %d is told %s", g.session, tell(k))
	}
}

// hearsReply: P0.2 and P0.4.
func (x *witness) hearsReply(g *guest, k api.Told) {
	x.t.Helper()
	isMine := k.Stamp > g.before && k.Stamp <= len(x.history)
	if isMine {
		e := x.history[k.Stamp-1]
		isMine = e.Kind == api.EntryRequest && [2]int{e.Session, e.Request} == g.asked && same(e.Ops, g.ops) && same(k.Reply, x.replies[k.Stamp])
	}
	if !isMine {
		x.t.Errorf("P0.2: the reply %s is not that of %v", tell(k.Reply), g.asked)
	}
	g.asked = [2]int{}
}

// hearsGrant: P0.4 and P0.5.
func (x *witness) hearsGrant(g *guest, k api.Told) {
	x.t.Helper()
	if k.Code != api.OK {
		return
	}
	if k.Stamp > len(x.history) {
		x.t.Fatalf("P0.4: the watch %d is granted at %d", k.Watch.Id, k.Stamp)
	}
	if !same(k.Part.Shot, x.parts[k.Stamp][spot{k.Watch.Place, k.Watch.Kind}]) {
		x.t.Errorf("P0.5: the watch %d is granted with %s", k.Watch.Id, tell(k.Part))
	}
	g.watches = append(g.watches, k.Watch)
	slices.SortFunc(g.watches, func(a, b api.Watch) int { return a.Id - b.Id })
}

// hearsItem: P0.4 and P0.6.
func (x *witness) hearsItem(g *guest, item api.Item) {
	x.t.Helper()
	if item.Stamp > len(x.history) {
		x.t.Fatalf("P0.4: the item %d is not in the history", item.Stamp)
	}
	if item.Stamp <= g.last {
		x.t.Errorf("P0.6: the item %d comes behind %d", item.Stamp, g.last)
	}
	if item.Marker {
		x.seen["marker"]++
		for _, p := range item.Parts {
			if !same(p.Shot, x.parts[item.Stamp][spot{p.Shot.Place, p.Shot.Kind}]) {
				x.t.Errorf("P0.5: a marker has the part %s", tell(p))
			}
		}
	} else {
		x.seen["event"]++
		if want := x.eventAt(item.Stamp, g.watches); len(want) == 0 || !same(item.Changes, want) {
			x.t.Errorf("P0.6: the event %s should have %s", tell(item), tell(want))
		}
		for z := g.last + 1; z < item.Stamp; z++ {
			if want := x.eventAt(z, g.watches); len(want) > 0 {
				x.t.Errorf("P0.6: %s was not told ahead of %d", tell(want), item.Stamp)
			}
		}
	}
	g.last = item.Stamp
}

// eventAt is what an entry has for watches that were granted below its stamp.
func (x *witness) eventAt(stamp int, watches []api.Watch) []api.Tagged {
	var all []api.Tagged
	for _, change := range x.changes[stamp] {
		tagged := api.Tagged{Change: change}
		for _, w := range watches {
			if w.From < stamp && place.Covers(w.Kind, w.Place, change.Kind, change.Place) {
				tagged.Tags = append(tagged.Tags, w.Id)
			}
		}
		if len(tagged.Tags) > 0 {
			all = append(all, tagged)
		}
	}
	return all
}

// lookAtPictures: P0.5.
func (x *witness) lookAtPictures() {
	x.t.Helper()
	for i := 1; i <= x.rules.Clients; i++ {
		g := x.guests[i]
		pictures, code := x.w.Pictures(i)
		if code != api.OK || len(pictures) != len(g.watches) {
			x.t.Fatalf("P17.7: the client %d has the watches %s and sees %s, %d", i, tell(g.watches), tell(pictures), code)
		}
		for k, p := range pictures {
			w := g.watches[k]
			want := x.parts[max(g.last, w.From)][spot{w.Place, w.Kind}]
			if p.Id != w.Id || p.Shot.Stamp > len(x.history) || !same(p.Shot.Nodes, want.Nodes) {
				x.t.Errorf("P0.5: at %d, the client %d sees %s, want %s", g.last, i, tell(p), tell(want))
			}
		}
	}
}

// lookAt looks at a node behind a step in which a message may have come.
func (x *witness) lookAt(i int, s api.Step, came *api.Message) {
	x.t.Helper()
	h := &x.hosts[i]
	before := h.sight
	h.sight, _ = x.w.Sight(i)
	x.isBound(i)
	disk, _ := x.w.Disk(i)
	if !h.sight.Up {
		if len(h.marks) > 0 && len(disk) < h.marks[len(h.marks)-1].size {
			x.t.Errorf("P17.2: the disk of the node %d has become shorter", i)
		}
		return
	}
	tree, code := x.w.Part(i, "/", api.WatchSubtree)
	if code != api.OK || tree.Stamp != h.sight.Commit || h.sight.Commit > len(x.history) {
		x.t.Fatalf("P17.7: the node %d with the commit %d shows the tree at %d, %d", i, h.sight.Commit, tree.Stamp, code)
	}
	if !same(tree, x.parts[tree.Stamp][spot{"/", api.WatchSubtree}]) {
		x.t.Errorf("P0.1: the node %d has at %d the tree %s", i, tree.Stamp, tell(tree))
	}
	if s.Kind == api.StepRestart && s.A == i {
		h.marks, h.full = nil, map[int]bool{}
		x.hasAcked(i, disk)
	}
	if len(h.marks) == 0 || h.marks[len(h.marks)-1].size != len(disk) {
		h.marks = append(h.marks, mark{len(disk), h.sight.Commit, h.sight.Last, h.sight.View, tree.Nodes})
	}
	x.mayMark(i, before, s, came)
}

// isBound: P0.8.
func (x *witness) isBound(i int) {
	x.t.Helper()
	s := x.hosts[i].sight
	for _, items := range s.Queued {
		if items > x.rules.Queue {
			x.t.Errorf("P0.8: a queue of the node %d holds %d items", i, items)
		}
	}
	if s.Commit-s.Floor > x.rules.Ring || s.Last-s.Commit > x.rules.Ring || s.Commit > s.Last {
		x.t.Errorf("P0.8: the node %d keeps the entries from %d on, has %d committed, and %d in all", i, s.Floor, s.Commit, s.Last)
	}
}

// hasAcked: P0.10, a node that was started has all that it ever acknowledged; but what it acknowledged in an earlier view may have given way to a full transfer of its view's primary, who has it then.
func (x *witness) hasAcked(i int, disk []byte) {
	x.t.Helper()
	said, _, size := journal.Recover(disk)
	if size != len(disk) {
		x.t.Errorf("P0.10: of the %d bytes of the node %d only %d are whole records", len(disk), i, size)
	}
	for stamp, a := range x.hosts[i].acked {
		if has(said, a.entry) {
			continue
		}
		primary := said.View.Primary
		disk, _ := x.w.Disk(primary)
		others, _, _ := journal.Recover(disk)
		isReset := a.view < said.View.Num && said.Matched == said.View.Num && primary != i
		if !isReset || !has(others, a.entry) {
			x.t.Errorf("P0.10: the node %d has acknowledged %s in the view %d, and is started with no more than %d", i, tell(a.entry), a.view, x.hosts[i].sight.Last)
		}
		delete(x.hosts[i].acked, stamp)
		x.seen["acknowledged and reset"]++
	}
}

// has tells whether a journal has an entry, in its log or below that.
func has(said api.Saved, e api.Entry) bool {
	at := e.Stamp - said.Stamp - 1
	return at < 0 || at < len(said.Entries) && same(said.Entries[at], e)
}

// mayMark finds where a marker may come into a queue of a node: where it was full, or somebody came back with a stamp below the floor.
func (x *witness) mayMark(i int, before api.Sight, s api.Step, came *api.Message) {
	h := &x.hosts[i]
	if s.Kind == api.StepCalm { // what happens in it is not seen one by one
		for _, session := range h.sight.Sessions {
			h.full[session] = true
		}
	}
	for k, session := range before.Sessions {
		if before.Queued[k]+h.sight.Commit-before.Commit > x.rules.Queue {
			h.full[session] = true
		}
	}
	for k, session := range h.sight.Sessions {
		if h.sight.Queued[k] == 0 {
			h.full[session] = false
		}
	}
	if came == nil || came.To != i {
		return
	}
	n, code := note.Open(*came)
	if code != api.OK || n.Kind != api.NoteResume {
		return
	}
	missed := 0
	for z := n.Stamp + 1; z <= h.sight.Commit; z++ {
		if len(x.eventAt(z, n.Watches)) > 0 {
			missed++
		}
	}
	if n.Stamp < h.sight.Floor || missed > x.rules.Queue {
		h.full[n.Session] = true
	}
}

// lookAtFlight: P0.7 and P0.8, of what has been sent since; and what was acknowledged is remembered.
func (x *witness) lookAtFlight(s api.Step) {
	x.t.Helper()
	numbers, messages := x.w.Flight()
	if len(numbers) != len(messages) || len(numbers) > api.MaxFlight || !slices.IsSorted(numbers) {
		x.t.Fatalf("P17.7: %d messages with the numbers %v are in flight", len(messages), numbers)
	}
	for k, m := range messages {
		if numbers[k] <= x.newest || s.Kind == api.StepDouble {
			continue
		}
		n := noteIn(x.t, m)
		x.seen[fmt.Sprintf("note %d", n.Kind)]++
		if len(m.Bytes) > api.MaxFrame {
			x.t.Errorf("P0.8: a message has %d bytes", len(m.Bytes))
		}
		if n.Kind == api.NoteDeliver && n.Items[0].Marker && s.Kind != api.StepCalm && !x.hosts[m.From].full[n.Session] {
			x.t.Errorf("P0.7: the node %d sends the session %d a marker", m.From, n.Session)
		}
		if n.Kind == api.NoteAcked {
			x.acknowledges(m.From, n)
		}
	}
	if len(numbers) > 0 {
		x.newest = max(x.newest, numbers[len(numbers)-1])
	}
}

func (x *witness) acknowledges(i int, n api.Note) {
	disk, _ := x.w.Disk(i)
	said, _, _ := journal.Recover(disk)
	for _, e := range said.Entries {
		if e.Stamp <= n.Stamp {
			x.hosts[i].acked[e.Stamp] = ack{e, n.View.Num}
		}
	}
}

// lookAtJournal: P0.10, a node that is started over a beginning of its journal is as it was then.
func (x *witness) lookAtJournal(c chance, i int) {
	x.t.Helper()
	disk, _ := x.w.Disk(i)
	marks := x.hosts[i].marks
	at := c.IntN(len(marks))
	size, next := marks[at].size, len(disk)
	if at+1 < len(marks) {
		next = marks[at+1].size
	}
	x.startsAs(i, disk[:size], marks[at])
	if cut := size + c.IntN(next-size+1); cut < next { // a record is whole or not there at all
		said, _, whole := journal.Recover(disk[:cut])
		if whole < size || whole > cut {
			x.t.Errorf("P0.10: of %d bytes, of which %d are whole records, Recover takes %d", cut, size, whole)
		}
		n, _, _, code := node.Open(i, x.rules, disk[:cut])
		if code != api.OK || n.Sight().View != said.View || n.Sight().Last != said.Stamp+len(said.Entries) {
			x.t.Errorf("P0.10: over %d bytes Open says %d and shows %s", cut, code, tell(n.Sight()))
		}
	}
}

func (x *witness) startsAs(i int, disk []byte, m mark) {
	x.t.Helper()
	n, _, _, code := node.Open(i, x.rules, disk)
	if code != api.OK {
		x.t.Fatalf("P0.10: over %d bytes of the node %d Open says %d", len(disk), i, code)
	}
	s := n.Sight()
	tree, _ := n.Part("/", api.WatchSubtree)
	if s.View != m.view || s.Commit != m.commit || s.Last != m.last || !same(tree.Nodes, m.tree) {
		x.t.Errorf("P0.10: over %d bytes the node %d shows %s, and was %s", len(disk), i, tell(s), tell(m))
	}
}

// now is the present view; members are its nodes.
func (x *witness) now() api.View {
	views := x.w.Views()
	return views[len(views)-1]
}

func (x *witness) members() []int {
	if v := x.now(); v.Backup != 0 {
		return []int{v.Primary, v.Backup}
	}
	return []int{x.now().Primary}
}

// isRestless tells what of P17.9 does not hold.
func (x *witness) isRestless() string {
	if x.play(promotes(0, 0)) != api.ErrView {
		return "the view is not settled"
	}
	primary := x.hosts[x.now().Primary].sight
	for _, i := range x.members() {
		s := x.hosts[i].sight
		if s.View != x.now() || s.Commit != s.Last || s.Commit != len(x.history) {
			return fmt.Sprintf("the node %d has %d of %d committed, of a history of %d", i, s.Commit, s.Last, len(x.history))
		}
	}
	for i, g := range x.guests {
		if at := slices.Index(primary.Sessions, g.session); g.session != 0 && at >= 0 && primary.Queued[at] != 0 {
			return fmt.Sprintf("the session %d has %d items in its queue", g.session, primary.Queued[at])
		}
		if g.session == 0 || !slices.Contains(x.machine.Sessions(), g.session) {
			continue
		}
		if g.asked != [2]int{} {
			return fmt.Sprintf("the client %d has no reply to %v", i, g.asked)
		}
		pictures, _ := x.w.Pictures(i)
		for _, p := range pictures {
			if tree, _ := x.w.Part(x.now().Primary, p.Shot.Place, p.Shot.Kind); !same(p.Shot.Nodes, tree.Nodes) {
				return fmt.Sprintf("the client %d sees %s, and there is %s", i, tell(p), tell(tree))
			}
		}
	}
	return ""
}
