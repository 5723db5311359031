package world_test

import (
	"slices"
	"strings"
	"testing"

	"herald/api"
	"herald/client"
	"herald/node"
	"herald/note"
	"herald/view"
	"herald/world"
)

// again is a world by other means: lists in the place of maps, a plain list as its line, and one switch for all steps.
type again struct {
	rules   api.Rules
	service *view.Service
	nodes   []*node.Node // by their numbers; nil: it does not run
	disks   []string
	clients []*client.Client // by their numbers
	flying  []flight
	sent    int
	history []api.Entry
	count   int
	told    []api.Told // in this step
}

type flight struct {
	number   int
	message  api.Message
	isSpoilt bool
}

func againOf(rules api.Rules) *again {
	g := &again{rules: rules, nodes: make([]*node.Node, rules.Nodes+1), disks: make([]string, rules.Nodes+1), clients: make([]*client.Client, rules.Clients+1)}
	g.service, _ = view.New(rules.Nodes)
	for k := range g.clients {
		g.clients[k], _ = client.New(k, rules.Nodes)
	}
	for i := 1; i <= rules.Nodes; i++ {
		g.starts(i)
	}
	return g
}

func (g *again) starts(i int) {
	n, disk, sent, _ := node.Open(i, g.rules, []byte(g.disks[i]))
	g.nodes[i], g.disks[i] = n, ""
	g.event(i, disk, sent)
}

func (g *again) event(i int, written []byte, sent []api.Message) {
	g.disks[i] += string(written)
	g.send(sent)
	for _, e := range g.nodes[i].Played() {
		if e.Stamp > len(g.history) {
			g.history = append(g.history, e)
		}
	}
}

func (g *again) send(sent []api.Message) {
	for _, m := range sent {
		if len(g.flying) < 256 {
			g.sent++
			g.flying = append(g.flying, flight{number: g.sent, message: m})
		}
	}
}

func (g *again) client(k int, told []api.Told, sent []api.Message, code api.Errno) api.Errno {
	for i := range told {
		told[i].Step, told[i].Client = g.count, k
	}
	g.told = append(g.told, told...)
	g.send(sent)
	return code
}

func (g *again) isNode(i int) bool { return i >= 1 && i <= g.rules.Nodes }

func (g *again) isClient(k int) bool { return k >= 1 && k <= g.rules.Clients }

func (g *again) isUp(i int) bool { return g.isNode(i) && g.nodes[i] != nil }

func (g *again) arrives(at int) {
	m := g.flying[at].message
	g.flying = slices.Delete(g.flying, at, at+1)
	if g.isUp(m.To) {
		written, sent := g.nodes[m.To].Take(m)
		g.event(m.To, written, sent)
	}
	if g.isClient(m.To - 100) {
		told, sent := g.clients[m.To-100].Take(m)
		g.client(m.To-100, told, sent, 0)
	}
	n, code := note.Open(m)
	if m.To != 0 || code != api.OK || !g.isNode(m.From) && !g.isClient(m.From-100) {
		return
	}
	for _, back := range g.service.Take(m.From, n) {
		answer, _ := note.Message(0, m.From, back)
		g.send([]api.Message{answer})
	}
}

func (g *again) ticks(a int) {
	if a > 100 {
		told, sent := g.clients[a-100].Tick()
		g.client(a-100, told, sent, 0)
	} else if a > 0 {
		written, sent := g.nodes[a].Tick()
		g.event(a, written, sent)
	}
}

func (g *again) rounds(count int) {
	for range count {
		for a := 1; a <= 100+g.rules.Clients; a++ {
			if g.isUp(a) || a > 100 {
				g.ticks(a)
			}
		}
		for left := 1024; left > 0 && len(g.flying) > 0; left-- {
			g.arrives(0)
		}
	}
}

func round(number, count int) int {
	if number %= count; number < 0 {
		return number + count
	}
	return number
}

// step plays one, and tells what the clients were told or did.
func (g *again) step(s api.Step) ([]api.Told, api.Errno) {
	g.told = nil
	code := api.ErrStep
	switch s.Kind {
	case 1, 2, 3, 4, 7:
		if s.Kind != 4 || s.C > 0 && s.C < 256 {
			code = g.message(s)
		}
	case 5, 6, 8, 10:
		code = g.node(s)
	case 9:
		code = g.service.Promote(s.A, s.B)
	case 11, 12, 13, 14, 15:
		if g.isClient(s.A) {
			code = g.wish(s)
		}
	case 16:
		if s.A > 0 && s.A < 65 {
			g.rounds(s.A)
			code = api.OK
		}
	}
	g.count++
	return g.told, code
}

func (g *again) message(s api.Step) api.Errno {
	if len(g.flying) == 0 {
		return api.ErrFlight
	}
	at := round(s.A, len(g.flying))
	f := &g.flying[at]
	switch s.Kind {
	case 1:
		g.arrives(at)
	case 2:
		g.flying = slices.Delete(g.flying, at, at+1)
	case 3:
		if len(g.flying) == 256 {
			return api.ErrFull
		}
		g.sent++
		g.flying = append(g.flying, flight{g.sent, f.message, f.isSpoilt})
	case 4:
		if f.isSpoilt {
			return api.ErrSpoilt
		}
		text, place := f.message.Bytes, round(s.B, len(f.message.Bytes))
		f.message.Bytes = text[:place] + string([]byte{text[place] ^ byte(s.C)}) + text[place+1:]
		f.isSpoilt = true
	case 7:
		to := f.message.To
		if !g.isUp(to) {
			return api.ErrStep
		}
		written, _ := g.nodes[to].Take(f.message)
		g.disks[to] += string(written[:round(s.B, len(written)+1)])
		g.nodes[to] = nil
		g.flying = slices.Delete(g.flying, at, at+1)
	}
	return api.OK
}

func (g *again) node(s api.Step) api.Errno {
	switch {
	case s.Kind == 5 && (s.A == 0 || g.isClient(s.A-100)):
		g.ticks(s.A)
		return api.OK
	case !g.isNode(s.A):
		return api.ErrStep
	case s.Kind == 8 && g.isUp(s.A):
		return api.ErrStep
	case s.Kind != 8 && !g.isUp(s.A):
		return api.ErrDown
	}
	switch s.Kind {
	case 5:
		g.ticks(s.A)
	case 6:
		g.nodes[s.A] = nil
	case 8:
		g.starts(s.A)
	case 10:
		written, sent := g.nodes[s.A].Save()
		g.event(s.A, written, sent)
	}
	return api.OK
}

func (g *again) wish(s api.Step) api.Errno {
	c := g.clients[s.A]
	var told []api.Told
	var sent []api.Message
	var code api.Errno
	switch s.Kind {
	case 11:
		told, sent, code = c.Do(s.Ops...)
	case 12:
		told, sent, code = c.Watch(s.Place, s.B)
	case 13:
		told, sent, code = c.Unwatch(s.B)
	case 14:
		told, sent, code = c.Begin()
	case 15:
		told, sent, code = c.End()
	}
	return g.client(s.A, told, sent, code)
}

// sight is all that the world should show.
func (g *again) sight() sight {
	s := sight{History: g.history, Views: g.service.All()}
	for _, f := range g.flying {
		s.Numbers, s.Messages = append(s.Numbers, f.number), append(s.Messages, f.message)
	}
	for i := range 8 {
		n, disk, tree, pictures := api.Sight{}, "", api.Shot{}, []api.Part(nil)
		codes := []api.Errno{170, 170, 170, 170}
		if g.isNode(i) {
			disk, codes = g.disks[i], []api.Errno{0, 0, 140, 170}
		}
		if g.isUp(i) {
			n = g.nodes[i].Sight()
			tree, codes[2] = g.nodes[i].Part("/", 3)
		}
		if g.isClient(i) {
			pictures, codes[3] = g.clients[i].Pictures(), 0
		}
		s.Sights, s.Disks, s.Trees, s.Pictures = append(s.Sights, n), append(s.Disks, []byte(disk)), append(s.Trees, tree), append(s.Pictures, pictures)
		s.Codes = append(s.Codes, codes...)
	}
	return s
}

// isLike holds what a world shows against what it should show.
func (g *again) isLike(t *testing.T, w *world.World) {
	t.Helper()
	got, want := sightOf(w), g.sight()
	is(t, "P17.6: History", got.History, want.History)
	is(t, "P17.7: the numbers of Flight", got.Numbers, want.Numbers)
	is(t, "P17.7: the messages of Flight", got.Messages, want.Messages)
	is(t, "P17.7: Sight", got.Sights, want.Sights)
	is(t, "P17.2: Disk", got.Disks, want.Disks)
	is(t, "P17.7: Part", got.Trees, want.Trees)
	is(t, "P17.7: Pictures", got.Pictures, want.Pictures)
	is(t, "P17.7: the codes of Sight, Disk, Part and Pictures", got.Codes, want.Codes)
	is(t, "P17.7: Views", got.Views, want.Views)
}

// stepsAlike plays a step in both worlds, and holds what it answers.
func (g *again) stepsAlike(t *testing.T, w *world.World, s api.Step) api.Errno {
	t.Helper()
	told, code := w.Step(s)
	want, wantCode := g.step(s)
	if code != wantCode || !same(told, want) {
		t.Errorf("P17.4: the step %s = %s, %d, want %s, %d", tell(s), tell(told), code, tell(want), wantCode)
	}
	return code
}

// standing is how a world is when a small script begins.
type standing struct {
	name  string
	rules api.Rules
	steps []api.Step
}

func standings() []standing {
	open := []api.Step{begins(1), calms(5), watches(1, "/", api.WatchSubtree), calms(2)}
	return []standing{
		{"one node", rulesOf(1, 1), nil},
		{"two nodes", rulesOf(2, 2), nil},
		{"asking", rulesOf(2, 2), []api.Step{ticks(2), ticks(1), begins(1), ticks(102), delivers(0), delivers(0)}},
		{"open", rulesOf(1, 2), slices.Concat(open, []api.Step{does(1, makes("/a", "x"))})},
		{"two open", rulesOf(2, 1), slices.Concat(open, []api.Step{does(1, makes("/a", "x")), delivers(0)})},
		{"delivering", api.Rules{Nodes: 1, Clients: 1, Queue: 1, Ring: 1, Window: 1, Lease: 1}, slices.Concat(open, []api.Step{does(1, makes("/a", "x")), delivers(0), delivers(0), spoils(0, 9, 9)})},
		{"changing", rulesOf(3, 1), slices.Concat(open, []api.Step{does(1, makes("/a", "x")), calms(2), promotes(2, 3), crashes(1), ticks(2), ticks(3), delivers(0)})},
	}
}

func (s standing) begins(t *testing.T) (*world.World, *again) {
	t.Helper()
	w, g := begun(t, s.rules), againOf(s.rules)
	for _, step := range s.steps {
		if code := g.stepsAlike(t, w, step); code != api.OK {
			t.Fatalf("%s: the step %+v is refused with %d", s.name, step, code)
		}
	}
	return w, g
}

// letters are the steps that small scripts are made of.
func letters() []api.Step {
	return []api.Step{
		delivers(0), delivers(1), delivers(-1), drops(0), doubles(0), doubles(-1), spoils(0, -1, 1), spoils(-1, 5, 255),
		ticks(1), ticks(2), ticks(101), crashes(1), crashes(2), withins(0, -1), withins(0, 7), withins(-1, 30), restarts(1), restarts(2),
		promotes(2, 1), promotes(1, 0), saves(1), does(1, makes("/a", "y"), sets("/a", "z")), watches(1, "/a", api.WatchNode), unwatches(1, 1),
		begins(1), finishes(1), calms(1), calms(2),
	}
}

// TestAllSmallScripts: P17.2 to P17.7, all scripts of up to two steps out of twenty-eight, in worlds of seven standings, and of three steps, by chance, in each.
func TestAllSmallScripts(t *testing.T) {
	all := letters()
	for _, from := range standings() {
		t.Run(from.name, func(t *testing.T) {
			t.Parallel()
			c := chanceOf(7, 170)
			for first := range len(all) * len(all) * 2 {
				w, g := from.begins(t)
				script := []api.Step{all[first%len(all)], all[first/len(all)%len(all)]}
				if first >= len(all)*len(all) {
					script = append(script, pick(c, all...), pick(c, all...), pick(c, all...))
				}
				for _, s := range script {
					g.stepsAlike(t, w, s)
					g.isLike(t, w)
					if t.Failed() {
						t.Fatalf("at %+v of the script %s", s, tell(script))
					}
				}
			}
		})
	}
}

// anyStep is one of any kind, whose numbers are near what may be, or at times far from it.
func (c chance) anyStep(g *again) api.Step {
	s := api.Step{Kind: pick(c, 1, 1, 1, 1, 1, 1, 1, 1, 1, 2, 3, 3, 4, 5, 5, 6, 7, 7, 8, 8, 9, 10, 11, 11, 11, 12, 12, 13, 13, 14, 14, 14, 15, 16, 16, c.IntN(20)-1), A: c.IntN(8) - 1, B: c.IntN(7) - 1, C: 1 + c.IntN(255)}
	s.Place = pick(c, c.place(), c.place(), "", "no place", strings.Repeat("/a", 60))
	s.Ops = c.ops()
	switch {
	case s.Kind <= 4 || s.Kind == 7:
		s.A, s.B = c.IntN(600)-300, c.IntN(2000)-1000
	case s.Kind == 5:
		s.A = pick(c, 0, 1, 2, 3, 101, 102, c.IntN(110))
	case s.Kind >= 11 && s.Kind <= 15:
		s.A, s.B = pick(c, 1, 1, 1, 2, s.A), pick(c, 1, 2, 3, s.B)
	case s.Kind == 16:
		s.A = pick(c, 1, 2, 4, s.A)
	}
	switch c.IntN(60) {
	case 0:
		s.A = pick(c, ends()...)
	case 1:
		s.B = pick(c, ends()...)
	case 2:
		s.C = pick(c, append(ends(), 0, 255, 256)...)
	case 3:
		s.Kind = pick(c, ends()...)
	case 4:
		s.Ops = make([]api.Op, pick(c, 0, 4, 5, 9))
	}
	return s
}

// TestScripts: P17.2 to P17.7, along long scripts by chance.
func TestScripts(t *testing.T) {
	t.Parallel()
	seen := map[[2]int]int{}
	for seed := range uint64(60) {
		c := chanceOf(seed, 171)
		rules := c.rules()
		w, g := begun(t, rules), againOf(rules)
		for range 250 {
			s := c.anyStep(g)
			code := g.stepsAlike(t, w, s)
			g.isLike(t, w)
			if t.Failed() {
				t.Fatalf("seed %d, %+v", seed, rules)
			}
			seen[[2]int{s.Kind, int(code)}]++
		}
	}
	for _, want := range [][2]int{{1, 0}, {1, 160}, {2, 0}, {3, 0}, {4, 0}, {5, 0}, {5, 140}, {5, 170}, {6, 0}, {6, 140}, {6, 170}, {7, 0}, {7, 170}, {8, 0}, {8, 170}, {9, 0}, {9, 120}, {9, 121}, {10, 0}, {10, 140}, {10, 170}, {11, 0}, {11, 150}, {11, 170}, {12, 0}, {12, 1}, {12, 10}, {12, 150}, {13, 0}, {13, 150}, {14, 0}, {14, 150}, {15, 0}, {15, 150}, {16, 0}, {16, 170}, {17, 170}, {18, 170}, {0, 170}, {-1, 170}} {
		if seen[want] < 5 {
			t.Errorf("the scripts have a step of the kind %d with the code %d only %d times", want[0], want[1], seen[want])
		}
	}
}
