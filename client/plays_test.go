package client_test

import (
	"slices"
	"testing"

	"herald/api"
	"herald/client"
	"herald/node"
	"herald/note"
	"herald/place"
	"herald/state"
	"herald/view"
)

// guest is a client among servers, and what is to be known of it by what it was told.
type guest struct {
	*client.Client
	laws    *laws
	session int         // 0: none is open
	last    int         // the stamp of the last item
	asked   [2]int      // the session and the number of the request that has no reply as yet
	ops     []api.Op    // of it
	before  int         // so long was the history when it was made
	watches []api.Watch // those that are granted, as they were granted
}

// town is a play of a service, servers and clients, whose messages come late, doubled, spoilt, out of order or never.
type town struct {
	t       *testing.T
	c       chance
	rules   api.Rules
	service *view.Service
	nodes   []*node.Node // by their numbers; nil: it does not run
	disks   [][]byte
	guests  []*guest // by their numbers
	flying  []api.Message
	history []api.Entry
	replies []api.Reply
	machine *state.Machine // it has played the history
	story   *story
}

func townOf(t *testing.T, c chance) *town {
	t.Helper()
	w := &town{t: t, c: c, machine: state.New(), story: &story{}, replies: make([]api.Reply, 1)}
	w.rules = api.Rules{Nodes: 1 + c.IntN(3), Clients: 1 + c.IntN(3), Queue: pick(c, 1, 2, 4), Ring: pick(c, 8, 16, 64), Window: 1 + c.IntN(3), Lease: pick(c, 0, 0, 9)}
	w.service, _ = view.New(w.rules.Nodes)
	w.story.add(nil, w.machine.Part)
	w.nodes, w.disks = make([]*node.Node, w.rules.Nodes+1), make([][]byte, w.rules.Nodes+1)
	for i := 1; i <= w.rules.Nodes; i++ {
		w.starts(i)
	}
	w.guests = make([]*guest, w.rules.Clients+1)
	for i := 1; i <= w.rules.Clients; i++ {
		made, _ := client.New(i, w.rules.Nodes)
		w.guests[i] = &guest{Client: made, laws: newLaws(t, 100+i, w.rules.Nodes)}
	}
	return w
}

func (w *town) starts(i int) {
	n, disk, sent, code := node.Open(i, w.rules, w.disks[i])
	if code != api.OK {
		w.t.Fatalf("P14.3: Open says %d", code)
	}
	w.nodes[i], w.disks[i] = n, nil
	w.event(i, disk, sent)
}

// event is what a server has done: what it wrote, and then what it sent.
func (w *town) event(i int, written []byte, sent []api.Message) {
	w.disks[i] = append(w.disks[i], written...)
	for _, e := range w.nodes[i].Played() {
		if e.Stamp != len(w.history)+1 {
			continue
		}
		reply, changes, _ := w.machine.Apply(e)
		w.history, w.replies = append(w.history, e), append(w.replies, reply)
		w.story.add(changes, w.machine.Part)
	}
	w.send(sent)
}

func (w *town) send(sent []api.Message) {
	w.flying = append(w.flying, sent...)
	w.flying = w.flying[:min(len(w.flying), api.MaxFlight)]
}

func (w *town) arrives(m api.Message) {
	switch to := m.To; {
	case to == 0:
		n, code := note.Open(m)
		if code != api.OK {
			return
		}
		for _, back := range w.service.Take(m.From, n) {
			answer, _ := note.Message(0, m.From, back)
			w.send([]api.Message{answer})
		}
	case to > 100:
		told, sent := w.guests[to-100].Take(m)
		w.guest(to-100, quiet(told, sent))
	case w.nodes[to] != nil:
		written, sent := w.nodes[to].Take(m)
		w.event(to, written, sent)
	}
}

// guest is what a client has done.
func (w *town) guest(i int, a answer) {
	w.t.Helper()
	g := w.guests[i]
	g.laws.hold(a)
	for _, x := range a.told {
		w.hears(g, x)
	}
	for _, p := range g.Pictures() {
		if p.Shot.Stamp > w.story.end() || !same(p, w.story.part(p.Shot.Stamp, watch(p.Id, p.Shot.Place, p.Shot.Kind, 0))) {
			w.t.Errorf("P15.13: the client %d sees %s", i, tell(p))
		}
	}
	w.send(a.sent)
}

// hears holds what a client was told against the history.
func (w *town) hears(g *guest, x api.Told) {
	w.t.Helper()
	switch x.Kind {
	case api.ToldBegin, api.ToldEnd, api.ToldGone:
		*g = guest{Client: g.Client, laws: g.laws}
	case api.ToldBegun:
		g.session = x.Session
	case api.ToldCall:
		g.asked, g.ops, g.before = [2]int{x.Session, x.Request}, x.Ops, len(w.history)
	case api.ToldReply:
		w.hearsReply(g, x)
	case api.ToldWatched:
		if x.Code == api.OK {
			g.watches = append(g.watches, x.Watch)
		}
	case api.ToldUnwatch:
		g.watches = slices.DeleteFunc(g.watches, func(v api.Watch) bool { return v.Id == x.Watch.Id })
	case api.ToldItem:
		w.hearsItem(g, x.Item)
	}
}

func (w *town) hearsReply(g *guest, x api.Told) {
	w.t.Helper()
	isMine := x.Stamp > g.before && x.Stamp <= len(w.history)
	if isMine {
		e := w.history[x.Stamp-1]
		isMine = e.Kind == api.EntryRequest && [2]int{e.Session, e.Request} == g.asked && same(e.Ops, g.ops) && same(x.Reply, w.replies[x.Stamp])
	}
	if !isMine {
		w.t.Errorf("P0.2: the reply %s is not that of %v", tell(x.Reply), g.asked)
	}
	g.asked = [2]int{}
}

func (w *town) hearsItem(g *guest, item api.Item) {
	w.t.Helper()
	if item.Stamp > w.story.end() {
		w.t.Fatalf("P0.4: the item %d is not in the history", item.Stamp)
	}
	slices.SortFunc(g.watches, func(a, b api.Watch) int { return a.Id - b.Id })
	if !item.Marker {
		if want, isOne := w.story.eventAt(item.Stamp, item.After, g.watches); !isOne || !same(item, want) {
			w.t.Errorf("P0.6: the event %s should be %s", tell(item), tell(want))
		}
		w.hasNoGap(g, item.Stamp)
	}
	g.last = item.Stamp
}

// hasNoGap holds that nothing was left out between the last item and an event.
func (w *town) hasNoGap(g *guest, stamp int) {
	w.t.Helper()
	for _, v := range g.watches {
		for z := max(v.From, g.last) + 1; z < stamp; z++ {
			for _, change := range w.story.changes[z] {
				if place.Covers(v.Kind, v.Place, change.Kind, change.Place) {
					w.t.Errorf("P0.6: the entry %d was for the watch %d, and was not told ahead of %d", z, v.Id, stamp)
				}
			}
		}
	}
}

// step is one by chance.
func (w *town) step() {
	c := w.c
	if k := c.IntN(100); len(w.flying) > 0 && k < 86 {
		at := c.IntN(min(len(w.flying), 1+c.IntN(12)))
		m := w.flying[at]
		if k > 2 {
			w.flying = slices.Delete(w.flying, at, at+1)
		}
		if k > 82 {
			return
		}
		if k == 82 {
			bytes := []byte(m.Bytes)
			bytes[c.IntN(len(bytes))] ^= byte(1 + c.IntN(255))
			m.Bytes = string(bytes)
		}
		w.arrives(m)
		return
	}
	switch k := c.IntN(100); {
	case k < 15:
		w.ticks(1 + c.IntN(w.rules.Nodes))
	case k < 30:
		w.ticks(101 + c.IntN(w.rules.Clients))
	case k < 31:
		w.nodes[1+c.IntN(w.rules.Nodes)] = nil
	case k < 39:
		if i := 1 + c.IntN(w.rules.Nodes); w.nodes[i] == nil {
			w.starts(i)
		}
	case k < 41:
		w.service.Promote(1+c.IntN(w.rules.Nodes), c.IntN(w.rules.Nodes+1))
	default:
		w.wishes(1 + c.IntN(w.rules.Clients))
	}
}

func (w *town) ticks(address int) {
	if address > 100 {
		told, sent := w.guests[address-100].Tick()
		w.guest(address-100, quiet(told, sent))
	} else if w.nodes[address] != nil {
		written, sent := w.nodes[address].Tick()
		w.event(address, written, sent)
	}
}

func (w *town) wishes(i int) {
	c, g := w.c, w.guests[i]
	switch k := c.IntN(40); {
	case k < 22:
		w.guest(i, answerOf(g.Do(c.turns()...)))
	case k < 31:
		w.guest(i, answerOf(g.Watch(c.place(), 1+c.IntN(3))))
	case k < 33:
		if len(g.watches) > 0 {
			w.guest(i, answerOf(g.Unwatch(pick(c, g.watches...).Id)))
		}
	case k < 39:
		w.guest(i, answerOf(g.Begin()))
	default:
		w.guest(i, answerOf(g.End()))
	}
}

// calms lets everybody tick and everything arrive, for so many rounds.
func (w *town) calms(rounds int) {
	for i := 1; i <= w.rules.Nodes; i++ {
		if w.nodes[i] == nil {
			w.starts(i)
		}
	}
	for range rounds {
		for i := 1; i <= w.rules.Nodes; i++ {
			w.ticks(i)
		}
		for i := 1; i <= w.rules.Clients; i++ {
			w.ticks(100 + i)
		}
		for count := 0; len(w.flying) > 0 && count < 1024; count++ {
			m := w.flying[0]
			w.flying = w.flying[1:]
			w.arrives(m)
		}
	}
}

// isCalm holds that every client whose session is open has its reply, and sees what the primary's tree holds.
func (w *town) isCalm() {
	w.t.Helper()
	primary := w.nodes[w.service.Now().Primary]
	for i, g := range w.guests {
		if i == 0 || g.session == 0 || !slices.Contains(w.machine.Sessions(), g.session) {
			continue
		}
		if g.asked != [2]int{} {
			w.t.Errorf("P0.9: the client %d has no reply to %v", i, g.asked)
		}
		for _, p := range g.Pictures() {
			if now, _ := primary.Part(p.Shot.Place, p.Shot.Kind); !same(p.Shot.Nodes, now.Nodes) {
				w.t.Errorf("P0.9: the client %d sees %s, and there is %s", i, tell(p), tell(now))
			}
		}
	}
}

// townPlay plays a town.
func townPlay(t *testing.T, seed uint64, steps int, seen map[string]int) {
	t.Helper()
	w := townOf(t, chanceOf(seed, 1512))
	for range 3 {
		for range steps {
			w.step()
			if t.Failed() {
				t.Fatalf("seed %d", seed)
			}
		}
		w.calms(26)
		w.isCalm()
		if t.Failed() {
			t.Fatalf("seed %d, calm", seed)
		}
	}
	for _, g := range w.guests[1:] {
		for what, times := range g.laws.seen {
			seen[what] += times
		}
	}
	seen["views"] += w.service.Now().Num
	seen["entries"] += len(w.history)
}

// TestPlays: P15.12 to P15.14, and of the promises of the whole what clients see of them, over plays with servers whose messages come late, doubled, spoilt, out of order or never, and who stop and change places.
func TestPlays(t *testing.T) {
	t.Parallel()
	seen := map[string]int{}
	for seed := range uint64(60) {
		townPlay(t, seed, 400, seen)
	}
	for what, times := range map[string]int{"event": 300, "marker": 50, "told 2": 500, "told 4": 300, "told 9": 30, "told 10": 30, "views": 100, "entries": 1000} {
		atLeast(t, seen, what, times)
	}
}
