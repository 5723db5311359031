package pair_test

import (
	"slices"
	"strings"
	"testing"

	"herald/api"
	"herald/note"
	"herald/pair"
)

// letters is how many calls letter knows.
const letters = 15

// letter is one of the calls of small scripts, by how the core is then; the other one is the node 2.
func letter(g *again, number int) call {
	num, last := g.num(), g.last()
	of := g.viewAt(last)
	take := func(n api.Note) call { return call{kind: "take", from: 2, note: n} }
	switch number {
	case 0:
		return call{kind: "adopt", view: viewOf(num+1, 1, 2)}
	case 1:
		return call{kind: "adopt", view: viewOf(num+1, 2, 1)}
	case 2:
		return call{kind: "adopt", view: viewOf(num+1, 1, 0)}
	case 3:
		return call{kind: "adopt", view: viewOf(num+1, 2, 3)}
	case 4:
		return call{kind: "propose", entry: request(last)}
	case 5:
		return take(acked(num, last))
	case 6:
		return take(acked(num, g.floor()))
	case 7:
		return take(join(num, last, of))
	case 8:
		return take(join(num, g.floor(), g.viewAt(g.floor())+1))
	case 9:
		return take(appends(num, last, of, last+1, ent(last+1, num)))
	case 10:
		return take(appends(num, last, of, last, ent(last+1, of), ent(last+2, num), ent(last+3, num)))
	case 11:
		return take(appends(num, last-1, of, last-1, ent(last, of), ent(last+1, num)))
	case 12:
		return take(full(num, last+1, of, "state"))
	case 13:
		return take(full(num, 0, 0, ""))
	}
	return call{kind: "start", said: g.said}
}

// TestAllSmallScripts: P13.1 to P13.7, all scripts of up to four calls out of fifteen, in logs with room for two entries; of up to three, in those with room for one and three, and behind a third beginning.
func TestAllSmallScripts(t *testing.T) {
	beginnings := []api.Saved{
		{},
		{View: viewOf(1, 1, 2), Matched: 1, Entries: run(0, 1, 1), Commit: 1},
		{View: viewOf(3, 2, 1), Matched: 2, Stamp: 4, Of: 1, State: "s", Entries: run(4, 1), Commit: 5},
	}
	for room := 1; room <= 3; room++ {
		for i, s := range beginnings {
			scripts := 1
			for length := 1; length <= 3 || length == 4 && room == 2 && i < 2; length++ {
				scripts *= letters
				for number := range scripts {
					c, _, _ := pair.New(1, room, s)
					g, _ := startAgain(1, room, s)
					for range length - 1 {
						letter(g, number%letters).on(&c, g)
						letter(g, number%letters).again(g)
						number /= letters
					}
					// What the shorter scripts have held already is not looked at again.
					goesLike(t, &c, g, letter(g, number))
				}
			}
		}
	}
}

// stamp is one at or near the floor, the last, the commit or the peer, at times far from all.
func (c chance) stamp(g *again) int {
	at := pick(c, g.floor(), g.last(), g.last(), g.said.Commit, g.peer, g.floor()+c.IntN(1+g.last()-g.floor()))
	switch c.IntN(12) {
	case 0, 1, 2:
		return at + pick(c, -2, -1, 1, 2)
	case 3:
		return pick(c, ends()...)
	}
	return at
}

// of is mostly the view of the entry at a stamp.
func (c chance) of(g *again, stamp int) int {
	if stamp < g.floor() || stamp > g.last() || c.IntN(8) == 0 {
		return pick(c, 0, g.num(), g.num()-1, g.num()+1, g.viewAt(g.last()), -1, most+1)
	}
	return g.viewAt(stamp)
}

// batch is entries behind a stamp, mostly such as the log takes; at times one of them is off.
func (c chance) batch(g *again, stamp int) []api.Entry {
	var list []api.Entry
	of := g.num()
	if stamp >= g.floor() && stamp <= g.last() && c.IntN(2) == 0 {
		of = g.viewAt(stamp)
	}
	for i := range pick(c, 0, 1, 1, 2, 3, g.room, g.room+1, 16, 17, 70) {
		if of < g.num() && c.IntN(4) == 0 {
			of++
		}
		e := ent(1, 1)
		if c.IntN(3) > 0 {
			e = ent(c.IntN(99), of)
		}
		list = append(list, placed(e, stamp+1+i, of))
	}
	if len(list) > 0 && c.IntN(4) == 0 {
		e := &list[c.IntN(len(list))]
		switch c.IntN(4) {
		case 0:
			e.Stamp += pick(c, -1, 1, 1<<32)
		case 1:
			e.View = pick(c, -1, 0, e.View-1, g.num()+1, most+1)
		case 2:
			e.Kind, e.Session, e.Request = pick(c, ends()...), pick(c, ends()...), pick(c, ends()...)
		case 3:
			e.Ops = pick(c, nil, []api.Op{}, make([]api.Op, 9))
		}
	}
	return list
}

// note is one that is often meant for the core as it is.
func (c chance) note(g *again) api.Note {
	kinds := []int{api.NoteProbe, api.NoteAppend, api.NoteAppend, api.NoteAppend, api.NoteAppend, api.NoteFull}
	if g.isPaired() {
		kinds = []int{api.NoteAcked, api.NoteAcked, api.NoteJoin}
	}
	if c.IntN(15) == 0 {
		kinds = []int{api.NoteProbe, api.NoteAppend, api.NoteFull, api.NoteAcked, api.NoteJoin, api.NoteAsk, api.NoteTell, api.NoteSettled, c.IntN(30)}
	}
	n := noteOf(pick(c, kinds...), g.num())
	n.Stamp = c.stamp(g)
	n.Of = c.of(g, n.Stamp)
	n.Commit = c.stamp(g)
	n.Entries = c.batch(g, n.Stamp)
	n.State = pick(c, "", "s", "state", strings.Repeat("x", pick(c, 5, 5, 5, api.MaxState, api.MaxState+1)))
	if c.IntN(12) == 0 {
		n.View = viewOf(pick(c, g.num()-1, g.num()+1, 0, n.View.Num), pick(c, 0, g.self), c.IntN(4))
	}
	return n
}

// call is one by chance, mostly such as does something.
func (c chance) call(g *again) call {
	v := g.said.View
	switch c.IntN(40) {
	case 0, 1, 2:
		peer := 1 + g.self%5
		next := pick(c, viewOf(v.Num+1, g.self, peer), viewOf(v.Num+1, peer, g.self), viewOf(v.Num+2, g.self, peer), viewOf(v.Num+1, g.self, 0), viewOf(v.Num+1, peer, 0))
		if c.IntN(6) == 0 {
			next = viewOf(pick(c, v.Num, v.Num-1, v.Num+1, pick(c, ends()...)), c.IntN(8)-1, c.IntN(8)-1)
		}
		return call{kind: "adopt", view: next}
	case 3, 4:
		if said := pick(c, append(g.ways, g.said)...); isWritten(said) {
			return call{kind: "start", said: said}
		}
	case 5:
		return call{kind: "tick"}
	case 6, 7, 8, 9, 10, 11, 12, 13, 14, 15:
		if g.active || c.IntN(5) == 0 {
			return call{kind: "propose", entry: request(c.IntN(99))}
		}
	}
	from := v.Primary
	if from == g.self {
		from = v.Backup
	}
	if c.IntN(20) == 0 {
		from = pick(c, 0, 1, 2, 3, g.self, pick(c, ends()...))
	}
	return call{kind: "take", from: from, note: c.note(g)}
}

// isWritten tells whether a journal can have these entries: a core takes such as it can't.
func isWritten(s api.Saved) bool {
	return !slices.ContainsFunc(s.Entries, func(e api.Entry) bool {
		e.Ops = nil
		_, code := note.EncodeEntry(e)
		return code != api.OK
	})
}

// journal is what a journal may say, from anywhere.
func (c chance) journal(room int) api.Saved {
	s := api.Saved{View: viewOf(0, 0, 0), State: pick(c, "", "s"), Stamp: pick(c, 0, 0, 1, 9, most, most-1, most-c.IntN(150))}
	if c.IntN(8) > 0 {
		s.View = viewOf(pick(c, 1, 2, 3, 9, most-c.IntN(9)), 1+c.IntN(2), 3*c.IntN(2))
		s.Matched = pick(c, 0, s.View.Num, max(0, s.View.Num-1), min(1, s.View.Num))
		s.Of = max(0, s.View.Num-c.IntN(4))
	}
	of := s.Of
	for range min(c.IntN(room+8), most-s.Stamp) {
		of = min(s.View.Num, of+c.IntN(5)/4)
		e := ent(1+c.IntN(99), of)
		s.Entries = append(s.Entries, placed(e, s.Stamp+len(s.Entries)+1, of))
	}
	last := s.Stamp + len(s.Entries)
	s.Commit = max(s.Stamp, last-c.IntN(room+1))
	return s
}

// TestScripts: P13.1 to P13.7, along long scripts of calls of cores of every number and room.
func TestScripts(t *testing.T) {
	seen := map[string]int{}
	for seed := range uint64(320) {
		c := chanceOf(seed, 1)
		room := 1 + int(seed)%api.MaxRing
		if seed%2 == 0 {
			room = 1 + c.IntN(5)
		}
		core, g := started(t, 1+c.IntN(3), room, c.journal(room))
		for range 150 {
			x := c.call(g)
			a := goesLike(t, &core, g, x)
			for _, r := range a.act.Records {
				seen[x.kind+" writes "+tell(r.Kind)]++
			}
			for _, o := range a.act.Notes {
				seen[x.kind+" sends "+tell(o.Note.Kind)]++
			}
			if len(a.act.Want) > 0 {
				seen[x.kind+" wants"]++
			}
			if x.kind == "propose" {
				seen["propose says "+tell(int(a.code))]++
			}
		}
	}
	for what, least := range map[string]int{
		"adopt writes 2": 100, "adopt writes 6": 30, "adopt sends 16": 100, "adopt sends 20": 100, "adopt sends 23": 100,
		"start writes 6": 20, "start sends 16": 100, "start sends 20": 100, "start sends 23": 100,
		"propose writes 1": 100, "propose writes 6": 100, "propose sends 17": 100,
		"propose says 0": 100, "propose says 130": 100, "propose says 131": 30, "propose says 3": 30,
		"take writes 1": 100, "take writes 3": 100, "take writes 4": 100, "take writes 6": 100,
		"take sends 16": 100, "take sends 17": 100, "take sends 18": 100, "take sends 23": 100, "take wants": 30,
		"tick sends 16": 30, "tick sends 17": 30, "tick sends 20": 30, "tick sends 23": 30,
	} {
		if seen[what] < least {
			t.Errorf("in the scripts %s only %d times", what, seen[what])
		}
	}
}
