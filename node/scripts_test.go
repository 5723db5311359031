package node_test

import (
	"testing"

	"herald/api"
	"herald/journal"
	"herald/node"
	"herald/note"
	"herald/pair"
)

// started is a server and its second reckoning over the same bytes.
func started(t *testing.T, self int, rules api.Rules, disk []byte) (*node.Node, *again) {
	t.Helper()
	n, _, _, code := node.Open(self, rules, disk)
	if code != api.OK {
		t.Fatalf("P14.3: Open says %d", code)
	}
	g, _, _ := startAgain(self, rules, disk)
	return n, g
}

func (g *again) num() int { return g.core.View().Num }

func (g *again) last() int { return g.now.Last() + len(g.open) }

// lastRequest is the greatest request of a session that there is.
func (g *again) lastRequest(session int) int {
	kept, _, _ := g.later().Kept(session)
	return kept
}

// comes is a note that comes from an address.
func (g *again) comes(from int, n api.Note) call {
	m, _ := note.Message(from, g.self, n)
	return call{kind: "take", message: m}
}

// counted makes a node with a name of its own, each time.
func counted() api.Op { return api.Op{Kind: api.OpMake, Place: "/n", Flags: api.FlagCounted} }

// brief makes one that goes with its session.
func brief() api.Op {
	return api.Op{Kind: api.OpMake, Place: "/b", Flags: api.FlagCounted | api.FlagBrief}
}

// small are the calls of small scripts at a server, by how it is then.
func small() []func(g *again) call {
	of := func(n api.Note) func(*again) call { return func(g *again) call { return g.comes(101, n) } }
	all := watch(1, "/", api.WatchSubtree)
	return []func(g *again) call{
		func(g *again) call { return call{kind: "tick"} },
		func(g *again) call { return g.comes(2, acks(g.num(), g.last())) },
		func(g *again) call { return g.comes(102, opens(17)) },
		func(g *again) call { return g.comes(101, calls(1, g.lastRequest(1)+1, counted(), brief())) },
		func(g *again) call { return g.comes(102, calls(1, max(1, g.lastRequest(1)), counted())) },
		of(closes(1)),
		of(resumes(1, 1, 0, all)),
		func(g *again) call { return g.comes(101, took(1, 1, g.hub.Last())) },
		of(opens(1)),
		func(g *again) call { return g.comes(2, acks(g.num(), g.now.Last()+1)) },
		func(g *again) call { return g.comes(0, tells(g.num()+1, 1, 0)) },
		func(g *again) call { return g.comes(0, tells(g.num()+1, 1, 2)) },
		func(g *again) call { return g.comes(2, joins(g.num(), g.last(), g.of())) },
		func(g *again) call { return call{kind: "start", size: len(g.disk)} },
		of(watches(1, 1, watch(2, "/", api.WatchKids))),
		of(beats(1, 1)),
		func(g *again) call { return call{kind: "save"} },
		of(unwatches(1, 1, 1)),
	}
}

// TestAllSmallScripts: P14.1 to P14.8, all scripts of up to three calls out of eighteen, and of four out of eight, at a lone primary and at one with a backup, whose session 1 is open.
func TestAllSmallScripts(t *testing.T) {
	for backup, name := range map[int]string{0: "lone", 2: "pair"} {
		t.Run(name, func(t *testing.T) {
			t.Parallel()
			over := disk(t, view(1, 1, backup), entry(1, 1, opening(1)), entry(2, 1, asking(1, 1, makes("/a"))), commit(2))
			rules := api.Rules{Nodes: 2, Clients: 2, Queue: 1, Ring: 2, Window: 2, Lease: 1}
			for length := 1; length <= 4; length++ {
				letters := small()
				if length == 4 {
					letters = letters[:8]
				}
				scripts := 1
				for range length {
					scripts *= len(letters)
				}
				for number := range scripts {
					runScript(t, rules, over, letters, number, length)
				}
			}
		})
	}
}

// runScript runs the script of a number: its last call alone is looked at, as the shorter scripts have held the others.
func runScript(t *testing.T, rules api.Rules, over []byte, letters []func(*again) call, number, length int) {
	t.Helper()
	n, g := started(t, 1, rules, over)
	ready := g.comes(2, joins(1, 2, 1))
	ready.on(&n, g)
	ready.again(g)
	for range length - 1 {
		x := letters[number%len(letters)](g)
		x.on(&n, g)
		x.again(g)
		number /= len(letters)
	}
	goesLike(t, &n, g, letters[number%len(letters)](g))
	toldLike(t, n, g)
	if t.Failed() {
		t.FailNow()
	}
}

// rules are any that a world may have.
func (c chance) rules() api.Rules {
	return api.Rules{Nodes: 3, Clients: 3, Queue: pick(c, 1, 2, 3, 32), Ring: pick(c, 1, 2, 3, 8, 64), Window: pick(c, 1, 2, 8), Lease: pick(c, 0, 1, 2, 5)}
}

// session is mostly one that is open; else one of a few, of which some have one slot.
func (c chance) session(open []int) int {
	if len(open) > 0 && c.IntN(5) > 0 {
		return pick(c, open...)
	}
	return pick(c, 1, 2, 3, 17, 18, 33, most)
}

func (c chance) ops() []api.Op {
	var list []api.Op
	for range 1 + c.IntN(3) {
		place := pick(c, "/a", "/b", "/a/b", "/n", "/", "none")
		list = append(list, pick(c, counted(), brief(), makes(place), makes(place), sets(place, "y"), gets(place), api.Op{Kind: api.OpDrop, Place: place, Version: -1}, api.Op{Kind: 9, Place: "no\xff", Data: "place"}))
	}
	return list
}

// watch is one that was granted at a stamp, or before; at times it is none that can have been.
func (c chance) watch(stamp int) api.Watch {
	return api.Watch{Id: 1 + c.IntN(4), Place: pick(c, "/", "/", "/a", "/n"), Kind: 1 + c.IntN(3), From: pick(c, 0, 0, 0, stamp, stamp, stamp, stamp, stamp+9)}
}

// client is a note of a session that has seen all up to a stamp, and whose last request is known.
func (c chance) client(session, stamp, request int) api.Note {
	conn := pick(c, 1, 1, 1, 1, 1, 2)
	stamp = max(0, stamp-pick(c, 0, 0, 1, 2, 5))
	switch c.IntN(32) {
	case 0, 1, 2:
		return opens(session)
	case 3:
		return closes(session)
	case 4, 5:
		return beats(session, conn)
	case 6, 7, 8, 9, 10, 11:
		n := resumes(session, conn, stamp)
		for i := range c.IntN(4) {
			w := c.watch(stamp)
			w.Id = pick(c, i+1, i+1, i+1, w.Id)
			n.Watches = append(n.Watches, w)
		}
		return n
	case 12, 13, 14:
		return watches(session, conn, c.watch(stamp))
	case 15:
		return unwatches(session, conn, 1+c.IntN(4))
	case 16, 17, 18, 19:
		return took(session, conn, stamp)
	}
	return calls(session, max(1, request+pick(c, 1, 1, 1, 1, 0, 0, -1, 3)), c.ops()...)
}

// batch are entries of sessions, such as a primary might propose, or not.
func (c chance) batch(g *again, stamp int) []api.Entry {
	var list []api.Entry
	for range pick(c, 0, 1, 1, 2, 3, 5) {
		s := c.session(g.now.Sessions())
		list = append(list, pick(c, opening(s), opening(s), asking(s, 1+c.IntN(5), c.ops()...), asking(s, 1+c.IntN(5), c.ops()...), closing(s), expiring(s)))
	}
	list = placed(stamp, pick(c, g.num(), g.num(), max(1, g.num()-1)), list...)
	if len(list) > 0 && c.IntN(12) == 0 {
		list[c.IntN(len(list))].View = 0
	}
	return list
}

// peer is a note of the other node, mostly such as the server waits for.
func (c chance) peer(g *again) api.Note {
	num := max(1, g.num()-pick(c, 0, 0, 0, 0, 0, 0, 1))
	last, of := g.core.Log().Last()
	floor, ofFloor := g.core.Log().Floor()
	if g.core.View().Backup == g.self {
		stamp := max(0, last-pick(c, 0, 0, 0, 1))
		switch c.IntN(8) {
		case 0:
			return probes(num)
		case 1:
			at := max(0, last+pick(c, 0, 1, 3))
			text := machineAt(at).Freeze()
			return fills(num, at+pick(c, 0, 0, 0, 0, 1), pick(c, of, num), text[:len(text)-pick(c, 0, 0, 0, 0, 1)])
		}
		return appends(num, stamp, of, max(0, last-pick(c, 0, 1, 2, -1)), c.batch(g, stamp)...)
	}
	if !g.core.Active() && c.IntN(2) == 0 {
		return joins(num, last, of)
	}
	switch c.IntN(16) {
	case 0:
		return joins(num, floor, ofFloor)
	case 1:
		return joins(num, last, of+pick(c, 0, 1))
	case 2:
		return acks(num, max(0, g.now.Last()-1))
	case 3, 4, 5, 6:
		return acks(num, g.now.Last()+2)
	case 7, 8, 9:
		return acks(num, last)
	}
	return acks(num, g.now.Last()+1)
}

// tell is a view that follows, mostly one in which the server is the primary; at times one that can't.
func (c chance) tell(g *again) call {
	num, other := g.num()+1, pick(c, 2, 2, 3)
	v := pick(c, viewOf(num, 1, 0), viewOf(num, 1, other), viewOf(num, 1, other), viewOf(num, 1, other), viewOf(num, other, 1), viewOf(num, other, 1), viewOf(num, other, 0), viewOf(num-1, 1, 0), viewOf(num, 1, 1))
	return g.comes(0, api.Note{Kind: api.NoteTell, View: v})
}

// call is a call of any kind.
func (c chance) call(g *again) call {
	v := g.core.View()
	if (v.Primary != g.self || !g.core.Active()) && c.IntN(6) == 0 || c.IntN(80) == 0 {
		return c.tell(g)
	}
	switch kind := c.IntN(40); {
	case kind < 3:
		return call{kind: "tick"}
	case kind == 3 && c.IntN(2) == 0:
		return c.start(g)
	case kind == 3:
		return call{kind: "save"}
	case kind == 4:
		return c.odd(g)
	case kind < 15 && v.Backup > 0 || !g.core.Active() && kind < 32:
		other := max(1, v.Primary+v.Backup-g.self)
		return g.comes(pick(c, other, other, other, other, other, other, 2, 3, 4), c.peer(g))
	}
	session := c.session(g.later().Sessions())
	return g.comes(pick(c, 101, 101, 102, 103, 104), c.client(session, g.hub.Last(), g.lastRequest(session)))
}

// start is over all of the journal, or over a beginning of it that can be opened.
func (c chance) start(g *again) call {
	x := call{kind: "start", size: len(g.disk)}
	if c.IntN(2) == 0 {
		return x
	}
	size := len(g.disk) - c.IntN(min(200, len(g.disk)+1))
	said, _, _ := journal.Recover(g.disk[:size])
	if _, _, code := pair.New(g.self, g.rules.Ring, said); code == api.OK {
		x.size = size
	}
	return x
}

// odd is a message that does not belong to whoever sends it, or is not for the server, or is spoilt.
func (c chance) odd(g *again) call {
	x := g.comes(pick(c, 0, 1, 2, 3, 5, 101, 103, 106), pick(c, every()...))
	switch c.IntN(4) {
	case 0:
		x.message.To = pick(c, ends()...)
	case 1:
		x.message.From = pick(c, ends()...)
	case 2:
		b := []byte(x.message.Bytes)
		b[c.IntN(len(b))] ^= byte(1 + c.IntN(255))
		x.message.Bytes = string(b)
	}
	return x
}

// TestScripts: P14.1 to P14.8, long scripts by chance.
func TestScripts(t *testing.T) {
	for part := range 4 {
		t.Run("", func(t *testing.T) {
			t.Parallel()
			for seed := range uint64(100) {
				c := chanceOf(seed, uint64(140+part))
				n, g := started(t, 1, c.rules(), nil)
				for number := range 150 {
					goesLike(t, &n, g, c.call(g))
					if c.IntN(4) == 0 {
						toldLike(t, n, g)
					}
					if t.Failed() {
						t.Fatalf("seed %d, call %d, rules %v", seed, number, g.rules)
					}
				}
			}
		})
	}
}
