package pair_test

import (
	"slices"
	"strings"
	"testing"

	"herald/api"
	"herald/pair"
)

// rich is a note of that kind and view with something in every field: an append that goes on from the last, a join at the last.
func rich(kind, num int) api.Note {
	return api.Note{
		Kind:    kind,
		View:    viewOf(num, 3, 5),
		Session: 1, Conn: 2, Request: 3, Stamp: 7, Of: 3, Commit: 9, Code: api.ErrView,
		Ops:     []api.Op{{Kind: api.OpGet, Place: "/a"}},
		Entries: run(7, 4),
		Reply:   api.Reply{Stamp: 10, Code: api.ErrNoNode, At: 1, Results: []api.Result{{Place: "/a", Kids: []string{"b"}}}},
		Watches: []api.Watch{{Id: 1, Place: "/a", Kind: 1, From: 3}},
		Parts:   []api.Part{{Id: 1, Shot: api.Shot{Stamp: 3, Place: "/a", Kind: 1}}},
		Items:   []api.Item{{Stamp: 4, After: 3}},
		State:   "given",
	}
}

// isMeant tells whether a note of that kind counts for a core in that state, if it comes from the right one.
func isMeant(what string, kind int) bool {
	switch {
	case strings.HasSuffix(what, "backup"):
		return kind == api.NoteProbe || kind == api.NoteAppend || kind == api.NoteFull
	case strings.HasPrefix(what, "lone"), strings.HasPrefix(what, "no "):
		return false
	}
	return kind == api.NoteAcked || kind == api.NoteJoin
}

// TestNotesOfEveryKind: P13.5, to cores in every part and state, from everybody, of the present view, of older and of later ones.
func TestNotesOfEveryKind(t *testing.T) {
	kinds := ends()
	for kind := -1; kind <= 30; kind++ {
		kinds = append(kinds, kind)
	}
	for _, s := range states() {
		for _, kind := range kinds {
			c, g := s.fresh(t)
			for _, from := range near(1, 5) {
				for _, num := range near(4) {
					if isMeant(s.what, kind) && from == 2 && num == 4 {
						continue
					}
					nothing(t, "P13.5: to a "+s.what, c.Take(from, rich(kind, num)))
					nothing(t, "P13.5: to a "+s.what, c.Take(from, api.Note{Kind: kind, View: viewOf(num+1<<32, 1, 2)}))
				}
			}
			if l := lookAt(t, c); !l.is(g.look()) {
				t.Fatalf("P13.5: what does not count turns a %s into %s", s.what, tell(l))
			}
			goesLike(t, &c, g, call{kind: "take", from: 2, note: rich(kind, 4)})
		}
	}
}

// TestNotesThatCount: P13.5, what a rich note of each kind that counts does.
func TestNotesThatCount(t *testing.T) {
	five := func(stamp int) api.Entry { return placed(request(5), stamp, 4) }
	log := run(3, 1, 2, 2, 3)
	for what, x := range map[string]struct {
		kind int
		act  pair.Act
	}{
		"backup: probe":  {api.NoteProbe, does(2, join(4, 7, 3))},
		"backup: append": {api.NoteAppend, does(matched(4), commit(7), entry(ent(8, 4)), commit(8), 2, acked(4, 8))},
		"backup: full":   {api.NoteFull, does(reset(4, 7, 3, "given"), 2, acked(4, 7))},

		"matched backup: probe":  {api.NoteProbe, does(2, join(4, 7, 3))},
		"matched backup: append": {api.NoteAppend, does(commit(7), entry(ent(8, 4)), commit(8), 2, acked(4, 8))},
		"matched backup: full":   {api.NoteFull, does(2, acked(4, 7))},

		"primary: acked": {api.NoteAcked, both(does(commit(7)), settles(4))},
		"primary: join":  {api.NoteJoin, both(does(commit(7)), settles(4))},

		"primary with a peer at the floor: acked": {api.NoteAcked, both(does(commit(7)), settles(4))},
		"primary with a peer: join":               {api.NoteJoin, both(does(commit(7)), settles(4))},

		"active primary: acked": {api.NoteAcked, pair.Act{}},
		"active primary: join":  {api.NoteJoin, pair.Act{}},

		"active primary with an open entry: acked": {api.NoteAcked, pair.Act{}},
		"active primary with a full log: join":     {api.NoteJoin, pair.Act{}},
	} {
		name, _, _ := strings.Cut(what, ":")
		i := slices.IndexFunc(states(), func(s state) bool { return s.what == name })
		c, _ := states()[i].fresh(t)
		acts(t, "P13.5: "+what, c.Take(2, rich(x.kind, 4)), x.act)
	}
	c, _ := states()[9].fresh(t)
	acts(t, "P13.5: one of three open entries", c.Take(2, acked(4, 8)), does(commit(8), 2, appends(4, 8, 4, 8, five(9), five(10))))
	acts(t, "P13.5: all of them", c.Take(2, acked(4, 10)), does(commit(10)))
	nothing(t, "P13.5: one again", c.Take(2, acked(4, 9)))
	c, _ = states()[4].fresh(t)
	acts(t, "P13.5: a join below the last", c.Take(2, join(4, 5, 2)), does(2, appends(4, 5, 2, 5, log[2:]...)))
	acts(t, "P13.5: the next one", c.Take(2, acked(4, 6)), does(commit(6), 2, appends(4, 6, 2, 6, log[3])))
}

// TestAppendInOrder: P13.9, the match, what makes room, the entries as long as there is room, and the commit that they bring.
func TestAppendInOrder(t *testing.T) {
	c, _ := states()[2].fresh(t)
	entries := run(7, 3, 4, 4, 4)
	acts(t, "P13.5: NoteAppend", c.Take(2, appends(4, 7, 3, 9, entries...)),
		does(matched(4), commit(7), entry(entries[0]), entry(entries[1]), entry(entries[2]), commit(9), 2, acked(4, 10)))
	stands(t, c, viewOf(4, 2, 1), false, 9, 7, 3, entries[:3]...)
	acts(t, "P13.5: NoteAppend again", c.Take(2, appends(4, 7, 3, 9, entries...)), does(entry(entries[3]), 2, acked(4, 11)))
	stands(t, c, viewOf(4, 2, 1), false, 9, 8, 3, entries[1:]...)
}

// lists are entries behind a stamp, such as a log takes and such as it does not, whole or in part; most have the view 4 in the end.
func lists(stamp int) [][]api.Entry {
	turned := func(number int, turn func(e *api.Entry), views ...int) []api.Entry {
		list := run(stamp, views...)
		turn(&list[number])
		return list
	}
	return [][]api.Entry{
		nil,
		{},
		run(stamp, 3),
		run(stamp, 4),
		run(stamp, 3, 4),
		run(stamp, 1, 2, 2, 3, 4, 4),
		run(stamp, 4, 4, 4, 4, 4),
		run(stamp, make([]int, 20)...),
		run(stamp, slices.Repeat([]int{4}, 20)...),
		run(stamp, 4, 3),
		run(stamp, 4, 3, 4),
		run(stamp, 2, 2, 2, 2),
		run(stamp, 5),
		run(stamp, 4, 4, 5),
		run(stamp, -1),
		run(stamp, 4, -1),
		run(stamp+1, 4, 4),
		run(stamp-1, 4, 4),
		turned(1, func(e *api.Entry) { e.Stamp++ }, 4, 4, 4),
		turned(2, func(e *api.Entry) { e.Stamp-- }, 4, 4, 4),
		turned(0, func(e *api.Entry) { e.Stamp += 1 << 32 }, 4),
		turned(0, func(e *api.Entry) { e.Kind, e.Session, e.Request, e.Ops = -1, -1, most+1, make([]api.Op, 9) }, 4, 4),
	}
}

// TestAppendsOfEveryMake: P13.5, appends at, below and above what the log has, with entries of every make and any commit.
func TestAppendsOfEveryMake(t *testing.T) {
	for _, s := range states()[2:4] {
		for _, stamp := range []int{-1 << 40, -1, 0, 1, 3, 4, 5, 6, 7, 8, most, 7 + 1<<32} {
			for _, of := range []int{-1, 0, 2, 3, 4, 5, 3 + 1<<32} {
				for _, entries := range lists(stamp) {
					for _, commit := range []int{-1, 5, 6, 7, 8, 9, most + 1} {
						c, g := s.fresh(t)
						goesLike(t, &c, g, call{kind: "take", from: 2, note: appends(4, stamp, of, commit, entries...)})
					}
				}
			}
		}
	}
}

// TestAppendsAtTheEnd: P13.5 and W7, no entry is taken behind MaxNumber.
func TestAppendsAtTheEnd(t *testing.T) {
	for _, matched := range []int{3, 4} {
		for _, stamp := range []int{most - 2, most - 1, most} {
			for number := range 4 {
				c, g := started(t, 1, 4, api.Saved{View: viewOf(4, 2, 1), Matched: matched, Stamp: stamp, Of: 4, Commit: stamp})
				var entries []api.Entry
				for i := range number {
					entries = append(entries, placed(ent(i, 4), stamp+1+i, 4))
				}
				goesLike(t, &c, g, call{kind: "take", from: 2, note: appends(4, stamp, 4, most+9, entries...)})
				if last, _ := c.Log().Last(); last > most || c.Commit() > most {
					t.Errorf("W7: the last is %d, the commit %d", last, c.Commit())
				}
			}
		}
	}
}

// TestFullsOfEveryMake: P13.5, full transfers with stamps and views at, below and above what the log has, and of every length.
func TestFullsOfEveryMake(t *testing.T) {
	for _, s := range states()[2:4] {
		for _, stamp := range near(4, 7) {
			for _, of := range near(4) {
				c, g := s.fresh(t)
				goesLike(t, &c, g, call{kind: "take", from: 2, note: full(4, stamp, of, "new")})
			}
		}
		for _, size := range []int{0, 1, api.MaxState - 1, api.MaxState, api.MaxState + 1, 2*api.MaxState + 7} {
			text := strings.Repeat("y", size)
			c, _ := s.fresh(t)
			want := does(reset(4, 9, 4, text), 2, acked(4, 9))
			if size > 200000 {
				want = pair.Act{}
			}
			acts(t, "P13.5: NoteFull", c.Take(2, full(4, 9, 4, text)), want)
		}
	}
}

// TestFullTakesThePlace: P13.5, what a full transfer leaves: an empty log of the same room behind a floor, all of it committed, and matched.
func TestFullTakesThePlace(t *testing.T) {
	for _, x := range []struct{ stamp, of int }{{0, 0}, {2, 1}, {6, 2}, {7, 3}, {7, 4}, {8, 4}, {most - 1, 0}, {most, 4}} {
		c, _ := states()[2].fresh(t)
		acts(t, "P13.5: NoteFull", c.Take(2, full(4, x.stamp, x.of, "new")), does(reset(4, x.stamp, x.of, "new"), 2, acked(4, x.stamp)))
		stands(t, c, viewOf(4, 2, 1), false, x.stamp, x.stamp, x.of)
		acts(t, "P13.6: Tick", c.Tick(), asks())
		acts(t, "P13.5: NoteFull again", c.Take(2, full(4, x.stamp, x.of, "newer")), does(2, acked(4, x.stamp)))
		acts(t, "P13.5: NoteFull below", c.Take(2, full(4, 0, 0, "older")), does(2, acked(4, x.stamp)))
		if x.stamp > most-4 {
			continue
		}
		entries := run(x.stamp, 4, 4, 4, 4)
		acts(t, "P13.5: NoteAppend", c.Take(2, appends(4, x.stamp, 9, 0, entries...)), does(entry(entries[0]), entry(entries[1]), entry(entries[2]), 2, acked(4, x.stamp+3)))
		stands(t, c, viewOf(4, 2, 1), false, x.stamp, x.stamp, x.of, entries[:3]...)
	}
	c, _ := states()[3].fresh(t)
	acts(t, "P13.5: NoteFull at the last of a matched log", c.Take(2, full(4, 7, 3, "new")), does(2, acked(4, 7)))
	acts(t, "P13.5: NoteFull above the last of a matched log", c.Take(2, full(4, 8, 4, "new")), does(reset(4, 8, 4, "new"), 2, acked(4, 8)))
	stands(t, c, viewOf(4, 2, 1), false, 8, 8, 4)
}

// TestAnswersOfEveryMake: P13.5, what a primary does at what its backup says, at, below and above what the log has.
func TestAnswersOfEveryMake(t *testing.T) {
	for _, s := range states()[4:10] {
		for _, stamp := range near(4, 7, 9) {
			c, g := s.fresh(t)
			goesLike(t, &c, g, call{kind: "take", from: 2, note: acked(4, stamp)})
			for _, of := range near(3) {
				c, g := s.fresh(t)
				goesLike(t, &c, g, call{kind: "take", from: 2, note: join(4, stamp, of)})
				// Whatever that was, a full transfer's acknowledgement brings it on.
				goesLike(t, &c, g, call{kind: "take", from: 2, note: acked(4, 5)})
				goesLike(t, &c, g, call{kind: "take", from: 2, note: acked(4, 7)})
				goesLike(t, &c, g, call{kind: "propose", entry: request(6)})
			}
		}
	}
}

// TestWant: P13.5, a full transfer is wanted as often as a join that does not stand comes, until the peer is known.
func TestWant(t *testing.T) {
	for _, n := range []api.Note{join(4, 3, 1), join(4, 8, 4), join(4, 7, 2), join(4, 4, 2), join(4, 5, 1), join(4, -1, 1), join(4, most+1, 3), join(4, 0, 0)} {
		c, g := states()[4].fresh(t)
		for range 2 {
			acts(t, "P13.5: NoteJoin", c.Take(2, n), does(want(2)))
		}
		if l := lookAt(t, c); !l.is(g.look()) {
			t.Errorf("P13.5: a Want turns the core into %s", tell(l))
		}
		acts(t, "P13.5: NoteAcked", c.Take(2, acked(4, 4)), does(2, appends(4, 4, 1, 5, run(4, 2, 2, 3)...)))
		nothing(t, "P13.5: NoteJoin when the peer is known", c.Take(2, n))
	}
	c := made(t, 5, 3, api.Saved{View: viewOf(1, 5, 4)})
	acts(t, "P13.5: NoteJoin", c.Take(4, join(1, 1, 1)), does(want(4)))
}
