package pair_test

import (
	"strings"
	"testing"

	"herald/api"
	"herald/pair"
)

// TestExamples: the chapter's table.
func TestExamples(t *testing.T) {
	a, first, code := pair.New(1, 4, api.Saved{})
	is(t, "P13.1: New", code, api.OK)
	nothing(t, "P13.1: New", first)
	b := made(t, 2, 4, api.Saved{})
	e, f, g := request(1), request(2), request(3)
	e1, f2, g2 := placed(e, 1, 1), placed(f, 2, 2), placed(g, 2, 1)
	acts(t, "P13.6: Tick", a.Tick(), asks())
	acts(t, "P13.2: Adopt", a.Adopt(viewOf(1, 1, 2)), does(view(1, 1, 2), 2, probe(1)))
	acts(t, "P13.2: Adopt", b.Adopt(viewOf(1, 1, 2)), does(view(1, 1, 2), 1, join(1, 0, 0)))
	refuses(t, "a primary that is not active", a, api.ErrInactive)
	acts(t, "P13.5: NoteJoin", a.Take(2, join(1, 0, 0)), settles(1))
	stands(t, a, viewOf(1, 1, 2), true, 0, 0, 0)
	proposes(t, a, e, 1, does(entry(e1), 2, appends(1, 0, 0, 0, e1)))
	acts(t, "P13.5: NoteAppend", b.Take(1, appends(1, 0, 0, 0, e1)), does(matched(1), entry(e1), 1, acked(1, 1)))
	acts(t, "P13.5: NoteAppend", b.Take(1, appends(1, 0, 0, 0, e1)), does(1, acked(1, 1)))
	acts(t, "P13.5: NoteAcked", a.Take(2, acked(1, 1)), does(commit(1)))
	acts(t, "P13.6: Tick", a.Tick(), both(asks(), settles(1), does(2, appends(1, 1, 1, 1))))
	acts(t, "P13.5: NoteAppend", b.Take(1, appends(1, 1, 1, 1)), does(commit(1), 1, acked(1, 1)))
	acts(t, "P13.3: a lone primary", b.Adopt(viewOf(2, 2, 0)), both(does(view(2, 2, 0)), settles(2)))
	stands(t, b, viewOf(2, 2, 0), true, 1, 0, 0, e1)
	proposes(t, b, f, 2, does(entry(f2), commit(2)))
	proposes(t, a, g, 2, does(entry(g2), 2, appends(1, 1, 1, 1, g2)))
	nothing(t, "P13.5: another view", b.Take(1, appends(1, 1, 1, 1, g2)))
	acts(t, "P13.2: Adopt", b.Adopt(viewOf(3, 2, 1)), does(view(3, 2, 1), 1, probe(3)))
	acts(t, "P13.2: Adopt", a.Adopt(viewOf(3, 2, 1)), does(view(3, 2, 1), 2, join(3, 2, 1)))
	acts(t, "P13.5: NoteJoin", b.Take(1, join(3, 2, 1)), does(want(1)))
	acts(t, "P13.5: NoteFull", a.Take(2, full(3, 2, 2, "z")), does(reset(3, 2, 2, "z"), 2, acked(3, 2)))
	stands(t, a, viewOf(3, 2, 1), false, 2, 2, 2)
}

// TestNewNumbers: P13.1, of every number and room, and beyond them.
func TestNewNumbers(t *testing.T) {
	rooms := ends()
	for room := -1; room <= api.MaxRing+2; room++ {
		rooms = append(rooms, room)
	}
	for _, self := range near(1, 5) {
		for _, room := range rooms {
			c, act, code := pair.New(self, room, api.Saved{})
			may := 1 <= self && self <= 5 && 1 <= room && room <= 64
			if may != (code == api.OK) || may != (c != nil) || !may && code != api.ErrArg {
				t.Errorf("P13.1: New(%d, %d) = %v, %d", self, room, c != nil, code)
			}
			nothing(t, "P13.1: New", act)
		}
	}
}

// fine is what the journal of the primary of a view says, with something in every field.
func fine() api.Saved {
	return api.Saved{View: viewOf(5, 1, 2), Matched: 4, Stamp: 7, Of: 2, State: "state", Entries: run(7, 2, 3, 3, 5), Commit: 9}
}

// with is what a journal says, turned a little.
func with(turn func(s *api.Saved)) api.Saved {
	s := fine()
	turn(&s)
	return s
}

// TestNewOfWhatMayNotBe: P13.1, each way in which a Saved may not be.
func TestNewOfWhatMayNotBe(t *testing.T) {
	made(t, 1, 2, fine())
	for what, s := range map[string]api.Saved{
		"a commit without entries":            {Commit: 1},
		"a matched view without a view":       {Matched: 1},
		"no view, but its nodes":              {View: viewOf(0, 1, 2)},
		"an Of without a view":                {Of: 1},
		"entries of a view without one":       {Entries: run(0, 1)},
		"a view below 1":                      with(func(s *api.Saved) { s.View.Num = -1 }),
		"a view above MaxNumber":              with(func(s *api.Saved) { s.View.Num = most + 1 }),
		"no primary":                          with(func(s *api.Saved) { s.View.Primary = 0 }),
		"a primary below 0":                   with(func(s *api.Saved) { s.View.Primary = -1 }),
		"a primary above MaxPeers":            with(func(s *api.Saved) { s.View.Primary = 6 }),
		"a backup below 0":                    with(func(s *api.Saved) { s.View.Backup = -1 }),
		"a backup above MaxPeers":             with(func(s *api.Saved) { s.View.Backup = 6 }),
		"a backup that is the primary":        with(func(s *api.Saved) { s.View.Backup = 1 }),
		"a matched view below 0":              with(func(s *api.Saved) { s.Matched = -1 }),
		"a matched view above the view":       with(func(s *api.Saved) { s.Matched = 6 }),
		"a Stamp below 0":                     {Stamp: -1, Commit: -1},
		"a Stamp above MaxNumber":             {Stamp: most + 1, Commit: most + 1},
		"an Of below 0":                       with(func(s *api.Saved) { s.Of = -1 }),
		"an Of above the view":                {View: viewOf(5, 1, 2), Of: 6},
		"an Of above MaxNumber":               {View: viewOf(most, 1, 2), Of: most + 1},
		"a State that is too long":            with(func(s *api.Saved) { s.State = strings.Repeat("x", api.MaxState+1) }),
		"a first entry that is not the next":  with(func(s *api.Saved) { s.Stamp = 6 }),
		"a first entry that is there already": with(func(s *api.Saved) { s.Stamp = 8 }),
		"a gap":                               with(func(s *api.Saved) { s.Entries[2].Stamp = 11 }),
		"a stamp that comes twice":            with(func(s *api.Saved) { s.Entries[2].Stamp = 9 }),
		"a stamp above MaxNumber":             {Stamp: most, Commit: most, Entries: run(most, 0)},
		"an entry's view below Of":            with(func(s *api.Saved) { s.Entries[0].View = 1 }),
		"an entry's view below 0":             with(func(s *api.Saved) { s.Of, s.Entries[0].View = 0, -1 }),
		"a view that falls":                   with(func(s *api.Saved) { s.Entries[2].View = 2 }),
		"an entry's view above the view":      with(func(s *api.Saved) { s.Entries[3].View = 6 }),
		"a first entry's view above the view": with(func(s *api.Saved) { s.Entries[0].View = 6 }),
		"an entry of no kind":                 with(func(s *api.Saved) { s.Entries[1].Kind = 0 }),
		"an entry of a fifth kind":            with(func(s *api.Saved) { s.Entries[1].Kind = 5 }),
		"an entry without a session":          with(func(s *api.Saved) { s.Entries[1].Session = 0 }),
		"a session above MaxNumber":           with(func(s *api.Saved) { s.Entries[1].Session = most + 1 }),
		"a request without a number":          with(func(s *api.Saved) { s.Entries[1].Request = 0 }),
		"a request above MaxNumber":           with(func(s *api.Saved) { s.Entries[1].Request = most + 1 }),
		"an opening with a request":           with(func(s *api.Saved) { s.Entries[1].Kind = api.EntryOpen }),
		"a commit below Stamp":                with(func(s *api.Saved) { s.Commit = 6 }),
		"a commit above the last":             with(func(s *api.Saved) { s.Commit = 12 }),
	} {
		c, act, code := pair.New(1, 64, s)
		if c != nil || code != api.ErrArg {
			t.Errorf("P13.1: New over %s = %v, %d", what, c != nil, code)
		}
		nothing(t, "P13.1: New over "+what, act)
	}
}

// TestNewOfWhatMayBe: P13.1, Saveds at the edges of what may be.
func TestNewOfWhatMayBe(t *testing.T) {
	long := strings.Repeat("\xff", 300)
	odd := []api.Op{{Kind: -1, Place: long, Data: long, Version: -9, Flags: most + 1}, {}, {}, {}, {}}
	for what, s := range map[string]api.Saved{
		"nothing":                       {},
		"entries of view 0":             {Entries: run(0, 0, 0), Commit: 1},
		"a state without a view":        {Stamp: 3, State: "s", Commit: 3},
		"a state at 0":                  {State: "s"},
		"the greatest numbers":          {View: viewOf(most, 5, 4), Matched: most, Stamp: most, Of: most, Commit: most},
		"entries up to MaxNumber":       {View: viewOf(most, 5, 0), Stamp: most - 2, Of: most, Entries: run(most-2, most, most), Commit: most},
		"the longest State":             {State: strings.Repeat("x", api.MaxState)},
		"never matched":                 with(func(s *api.Saved) { s.Matched = 0 }),
		"matched":                       with(func(s *api.Saved) { s.Matched = 5 }),
		"an Of that is the view":        with(func(s *api.Saved) { s.Of, s.Entries, s.Commit = 5, run(7, 5), 8 }),
		"the commit at Stamp":           with(func(s *api.Saved) { s.Commit = 7 }),
		"the commit at the last":        with(func(s *api.Saved) { s.Commit = 11 }),
		"a view without a backup":       with(func(s *api.Saved) { s.View.Backup = 0 }),
		"a view of others":              with(func(s *api.Saved) { s.View = viewOf(5, 3, 4) }),
		"ops that may not be":           with(func(s *api.Saved) { s.Entries[1].Ops = odd }),
		"an opening with ops":           with(func(s *api.Saved) { s.Entries[0].Ops = odd }),
		"no entries":                    with(func(s *api.Saved) { s.Entries, s.Commit = nil, 7 }),
		"a list of entries without one": with(func(s *api.Saved) { s.Entries, s.Commit = []api.Entry{}, 7 }),
	} {
		for self := 1; self <= 5; self++ {
			c, got, code := pair.New(self, 4, s)
			if c == nil || code != api.OK {
				t.Errorf("P13.1: New over %s = %v, %d", what, c != nil, code)
				continue
			}
			g, want := startAgain(self, 4, s)
			acts(t, "P13.1: New over "+what, got, want)
			if l := lookAt(t, c); !l.is(g.look()) {
				t.Errorf("P13.1: New over %s stands as %s", what, tell(l))
			}
		}
	}
}

// TestNewLog: P13.1, the log has the last entries, as many as there is room, whatever is committed; with more open ones there is no core.
func TestNewLog(t *testing.T) {
	for room := 1; room <= 6; room++ {
		for number := range 10 {
			entries := run(7, []int{3, 3, 4, 5, 5, 6, 7, 8, 8, 8}[:number]...)
			for open := range number + 1 {
				s := api.Saved{View: viewOf(9, 3, 4), Stamp: 7, Of: 2, Entries: entries, Commit: 7 + number - open}
				c, act, code := pair.New(1, room, s)
				if open > room {
					is(t, "P13.1: New with more open entries than room", code, api.ErrArg)
					continue
				}
				is(t, "P13.1: New", code, api.OK)
				nothing(t, "P13.3: no part", act)
				floor, of, kept := 7, 2, entries
				if number > room {
					kept = entries[number-room:]
					floor, of = entries[number-room-1].Stamp, entries[number-room-1].View
				}
				stands(t, c, s.View, false, s.Commit, floor, of, kept...)
			}
		}
	}
}

// TestNewWithALongJournal: P13.1, a journal may have many more entries than there is room.
func TestNewWithALongJournal(t *testing.T) {
	entries := run(0, make([]int, 1000)...)
	c := made(t, 1, 64, api.Saved{Entries: entries, Commit: 936})
	stands(t, c, api.View{}, false, 936, 936, 0, entries[936:]...)
	_, _, code := pair.New(1, 64, api.Saved{Entries: entries, Commit: 935})
	is(t, "P13.1: New with 65 open entries", code, api.ErrArg)
}

// TestBeginnings: P13.3, of every part, at a start and at a view that is taken over.
func TestBeginnings(t *testing.T) {
	for what, x := range map[string]struct {
		view   api.View
		act    pair.Act
		active bool
		commit int
	}{
		"no part":                    {viewOf(5, 2, 3), pair.Act{}, false, 9},
		"no part, nobody else":       {viewOf(5, 2, 0), pair.Act{}, false, 9},
		"backup":                     {viewOf(5, 2, 1), does(2, join(5, 11, 4)), false, 9},
		"primary":                    {viewOf(5, 1, 2), does(2, probe(5)), false, 9},
		"primary of another backup":  {viewOf(5, 1, 5), does(5, probe(5)), false, 9},
		"backup of another primary":  {viewOf(5, 5, 1), does(5, join(5, 11, 4)), false, 9},
		"lone primary":               {viewOf(5, 1, 0), both(does(commit(11)), settles(5)), true, 11},
		"lone primary, all is known": {viewOf(5, 1, 0), settles(5), true, 11},
	} {
		s := api.Saved{View: x.view, Stamp: 7, Of: 2, Entries: run(7, 2, 3, 3, 4), Commit: 9}
		if strings.Contains(what, "all is known") {
			s.Commit = 11
		}
		for _, number := range []int{0, 4, 5} {
			s.Matched = number
			c, act, code := pair.New(1, 3, s)
			is(t, "P13.1: New", code, api.OK)
			acts(t, "P13.3: "+what+", at a start", act, x.act)
			stands(t, c, x.view, x.active, x.commit, 8, 2, s.Entries[1:]...)
		}
		s.View, s.Matched = viewOf(4, 3, 2), 4
		c := made(t, 1, 3, s)
		acts(t, "P13.3: "+what+", at a view", c.Adopt(x.view), both(does(view(5, x.view.Primary, x.view.Backup)), x.act))
		stands(t, c, x.view, x.active, x.commit, 8, 2, s.Entries[1:]...)
	}
}

// TestAdopt: P13.2, views of every make.
func TestAdopt(t *testing.T) {
	s := api.Saved{View: viewOf(3, 1, 2), Matched: 2, Entries: run(0, 1, 2), Commit: 1}
	for _, num := range near(3) {
		for _, primary := range near(1, 5) {
			for _, backup := range near(1, 5) {
				for self := 1; self <= 5; self++ {
					// All nodes look alike to views that are far off.
					if self > 1 && (num != 4 || primary > 6 || backup > 6) {
						continue
					}
					c, g := started(t, self, 3, s)
					goesLike(t, &c, g, call{kind: "adopt", view: viewOf(num, primary, backup)})
				}
			}
		}
	}
}

// TestAdoptEnds: P13.2, what may not be adopted changes nothing; the greatest number may.
func TestAdoptEnds(t *testing.T) {
	c := made(t, 1, 3, api.Saved{View: viewOf(3, 4, 5)})
	for _, v := range []api.View{{}, viewOf(3, 1, 2), viewOf(2, 1, 2), viewOf(0, 1, 2), viewOf(-4, 1, 2), viewOf(most+1, 1, 2), viewOf(4, 0, 1), viewOf(4, 6, 1), viewOf(4, -1, 1), viewOf(4, 1, 6), viewOf(4, 1, -1), viewOf(4, 1, 1), viewOf(4, 0, 0)} {
		before := lookAt(t, c)
		nothing(t, "P13.2: Adopt", c.Adopt(v))
		if l := lookAt(t, c); !l.is(before) {
			t.Errorf("P13.2: Adopt(%v) changes %s", v, tell(l))
		}
	}
	acts(t, "P13.2: a later view", c.Adopt(viewOf(7, 5, 0)), does(view(7, 5, 0)))
	acts(t, "P13.2: the last view", c.Adopt(viewOf(most, 1, 5)), does(view(most, 1, 5), 5, probe(most)))
	nothing(t, "P13.2: behind the last view", c.Adopt(viewOf(most+1, 1, 5)))
	nothing(t, "P13.2: the last view again", c.Adopt(viewOf(most, 1, 5)))
}

// TestForgotten: at a new view, and at a stop, a primary forgets what the backup has, and that it is active; the base is the last then.
func TestForgotten(t *testing.T) {
	s := api.Saved{View: viewOf(1, 1, 2), Entries: run(0, 1, 1), Commit: 1}
	c := made(t, 1, 4, s)
	acts(t, "P13.5: at the base", c.Take(2, acked(1, 2)), both(does(commit(2)), settles(1)))
	proposes(t, c, placed(ent(3, 1), 77, 9), 3, does(entry(ent(3, 1)), 2, appends(1, 2, 1, 2, ent(3, 1))))
	acts(t, "P13.2: Adopt", c.Adopt(viewOf(2, 1, 2)), does(view(2, 1, 2), 2, probe(2)))
	refuses(t, "a primary of a new view", c, api.ErrInactive)
	acts(t, "P13.6: Tick", c.Tick(), both(asks(), does(2, probe(2))))
	// The base is 3 now: to have 2 is not enough.
	acts(t, "P13.5: below the base", c.Take(2, join(2, 2, 1)), does(2, appends(2, 2, 1, 2, ent(3, 1))))
	refuses(t, "a primary whose backup lacks something", c, api.ErrInactive)
	acts(t, "P13.5: at the base", c.Take(2, acked(2, 3)), both(does(commit(3)), settles(2)))
	acts(t, "P13.2: a view without a part", c.Adopt(viewOf(3, 2, 3)), does(view(3, 2, 3)))
	refuses(t, "no part", c, api.ErrInactive)
	acts(t, "P13.6: Tick", c.Tick(), asks())
	acts(t, "P13.2: a lone primary", c.Adopt(viewOf(4, 1, 0)), both(does(view(4, 1, 0)), settles(4)))
	acts(t, "P13.2: a backup", c.Adopt(viewOf(5, 2, 1)), does(view(5, 2, 1), 2, join(5, 3, 1)))
	refuses(t, "a backup", c, api.ErrInactive)
}

// state is one of the states that a core of number 1 can be in.
type state struct {
	what    string
	view    api.View
	matched int
	calls   []call // behind a start
}

// fresh is a new core in that state, with its like: the log has a floor of view 1 at 4, and behind that entries of the views 2, 2 and 3.
func (s state) fresh(t *testing.T) (*pair.Core, *again) {
	t.Helper()
	said := api.Saved{View: s.view, Matched: s.matched, Stamp: 3, Of: 1, State: "old", Entries: run(3, 1, 2, 2, 3), Commit: 5}
	if s.view.Num == 0 {
		said = api.Saved{Stamp: 3, State: "old", Entries: run(3, 0, 0, 0, 0), Commit: 5}
	}
	c, g := started(t, 1, 3, said)
	for _, x := range s.calls {
		x.on(&c, g)
		x.again(g)
	}
	return c, g
}

// states are those of every part.
func states() []state {
	hears := func(n api.Note) call { return call{kind: "take", from: 2, note: n} }
	asks := call{kind: "propose", entry: request(5)}
	return []state{
		{"no view", api.View{}, 0, nil},
		{"no part", viewOf(4, 2, 3), 4, nil},
		{"backup", viewOf(4, 2, 1), 3, nil},
		{"matched backup", viewOf(4, 2, 1), 4, nil},
		{"primary", viewOf(4, 1, 2), 4, nil},
		{"primary with a peer at the floor", viewOf(4, 1, 2), 0, []call{hears(join(4, 4, 1))}},
		{"primary with a peer", viewOf(4, 1, 2), 4, []call{hears(acked(4, 6))}},
		{"active primary", viewOf(4, 1, 2), 4, []call{hears(acked(4, 7))}},
		{"active primary with an open entry", viewOf(4, 1, 2), 4, []call{hears(join(4, 7, 3)), asks}},
		{"active primary with a full log", viewOf(4, 1, 2), 4, []call{hears(join(4, 7, 3)), asks, asks, asks}},
		{"lone primary", viewOf(4, 1, 0), 4, nil},
		{"lone primary that was asked", viewOf(4, 1, 0), 0, []call{asks, asks}},
	}
}

// TestProposeInEveryState: P13.4.
func TestProposeInEveryState(t *testing.T) {
	for _, s := range states() {
		c, _ := s.fresh(t)
		_, _, code := c.Propose(request(1))
		why := api.ErrInactive
		switch s.what {
		case "active primary", "active primary with an open entry", "lone primary", "lone primary that was asked":
			why = api.OK
		case "active primary with a full log":
			why = api.ErrBusy
		}
		is(t, "P13.4: Propose to a "+s.what, code, why)
		again, g := s.fresh(t)
		for range 5 {
			goesLike(t, &again, g, call{kind: "propose", entry: request(3)})
		}
	}
}

// TestProposeAnything: P13.4, of an entry nothing is asked; its stamp and view are the core's.
func TestProposeAnything(t *testing.T) {
	long := strings.Repeat("\xff\x00", 100000)
	for i, e := range []api.Entry{{}, {Stamp: 9, View: 9}, {Stamp: -1, View: most + 1, Kind: 99, Session: -1, Request: most + 1}, {Ops: make([]api.Op, 1000)}, {Ops: []api.Op{{Kind: -1, Place: long, Data: long, Version: -3, Flags: -1}}}} {
		lone := made(t, 1, 1, api.Saved{View: viewOf(6, 1, 0)})
		proposes(t, lone, e, 1, does(entry(placed(e, 1, 6)), commit(1)))
		c := made(t, 1, 1, api.Saved{View: viewOf(6, 1, 3), Stamp: i, Of: 6, Commit: i})
		c.Take(3, join(6, i, 6))
		mine := placed(e, i+1, 6)
		proposes(t, c, e, i+1, does(entry(mine), 3, appends(6, i, 6, i, mine)))
		stands(t, c, viewOf(6, 1, 3), true, i, i, 6, mine)
	}
}

// TestProposeIsBusy: P13.4, with as many open entries as there is room, or MaxOpen, of every room.
func TestProposeIsBusy(t *testing.T) {
	for room := 1; room <= api.MaxRing; room++ {
		c := made(t, 1, room, api.Saved{View: viewOf(2, 1, 2), Stamp: 5, Commit: 5})
		c.Take(2, acked(2, 5))
		open := min(room, 32)
		for i := range open {
			if stamp, _, code := c.Propose(request(i)); stamp != 6+i || code != api.OK {
				t.Fatalf("P13.4: with room for %d, the entry %d = %d, %d", room, i, stamp, code)
			}
		}
		refuses(t, "busy", c, api.ErrBusy)
		c.Take(2, acked(2, 6))
		if stamp, _, code := c.Propose(request(1)); stamp != 6+open || code != api.OK {
			t.Errorf("P13.4: with room for %d, one is committed: %d, %d", room, stamp, code)
		}
		refuses(t, "busy again", c, api.ErrBusy)
		lone := made(t, 1, room, api.Saved{View: viewOf(2, 1, 0)})
		for i := range 3 * room {
			if stamp, _, code := lone.Propose(request(i)); stamp != i+1 || code != api.OK {
				t.Fatalf("P13.4: a lone primary with room for %d: %d, %d", room, stamp, code)
			}
		}
	}
}

// TestProposeAtTheEnd: P13.4 and W7, no stamp passes MaxNumber; that is told ahead of being busy.
func TestProposeAtTheEnd(t *testing.T) {
	lone := made(t, 1, 2, api.Saved{View: viewOf(2, 1, 0), Stamp: most - 1, Commit: most - 1})
	proposes(t, lone, request(1), most, does(entry(placed(request(1), most, 2)), commit(most)))
	before := lookAt(t, lone)
	refuses(t, "the last is MaxNumber", lone, api.ErrNumber)
	if !lookAt(t, lone).is(before) {
		t.Error("W7: a refused Propose changes something")
	}
	c := made(t, 1, 1, api.Saved{View: viewOf(2, 1, 3), Stamp: most - 1, Commit: most - 1})
	c.Take(3, acked(2, most-1))
	proposes(t, c, request(1), most, does(entry(placed(request(1), most, 2)), 3, appends(2, most-1, 0, most-1, placed(request(1), most, 2))))
	refuses(t, "the last is MaxNumber, and it is open", c, api.ErrNumber)
	acts(t, "P13.5: NoteAcked", c.Take(3, acked(2, most)), does(commit(most)))
	refuses(t, "the last is MaxNumber", c, api.ErrNumber)
	at := made(t, 1, 1, api.Saved{View: viewOf(2, 1, 3), Stamp: most, Commit: most})
	refuses(t, "not active, the last is MaxNumber", at, api.ErrInactive)
}

// TestAppendsBatch: an append has at most MaxBatch entries, and goes on from what the backup has.
func TestAppendsBatch(t *testing.T) {
	views := make([]int, 40)
	entries := run(10, views...)
	s := api.Saved{View: viewOf(3, 1, 2), Stamp: 10, Entries: entries, Commit: 11}
	for peer := 10; peer <= 50; peer++ {
		c := made(t, 1, 64, s)
		n := appends(3, peer, 0, max(11, peer), entries[peer-10:min(40, peer+6)]...)
		want := does(2, n)
		if peer > 11 {
			want = both(does(commit(peer)), want)
		}
		if peer == 50 {
			want = both(does(commit(50)), settles(3))
		}
		acts(t, "P13.5: NoteJoin", c.Take(2, join(3, peer, 0)), want)
		tick := both(asks(), does(2, n))
		if peer == 50 {
			tick = both(asks(), settles(3), does(2, appends(3, 50, 0, 50)))
		}
		acts(t, "P13.6: Tick", c.Tick(), tick)
	}
}

// TestTicks: P13.6, in every part and state.
func TestTicks(t *testing.T) {
	rest := run(3, 1, 2, 2, 3)[1:]
	five := request(5)
	for _, s := range states() {
		c, g := s.fresh(t)
		want, known := map[string]pair.Act{
			"no view":                           {},
			"no part":                           {},
			"backup":                            does(2, join(4, 7, 3)),
			"matched backup":                    {},
			"primary":                           does(2, probe(4)),
			"primary with a peer at the floor":  does(2, appends(4, 4, 1, 5, rest...)),
			"primary with a peer":               does(2, appends(4, 6, 2, 6, rest[2])),
			"active primary":                    both(settles(4), does(2, appends(4, 7, 3, 7))),
			"active primary with an open entry": both(settles(4), does(2, appends(4, 7, 3, 7, placed(five, 8, 4)))),
			"active primary with a full log":    both(settles(4), does(2, appends(4, 7, 3, 7, placed(five, 8, 4), placed(five, 9, 4), placed(five, 10, 4)))),
			"lone primary":                      settles(4),
			"lone primary that was asked":       settles(4),
		}[s.what]
		if !known {
			t.Errorf("of a %s it is not said what it does", s.what)
		}
		// A tick changes nothing.
		for range 3 {
			acts(t, "P13.6: Tick of a "+s.what, c.Tick(), both(asks(), want))
		}
		if l := lookAt(t, c); !l.is(g.look()) {
			t.Errorf("P13.6: a Tick of a %s changes %s", s.what, tell(l))
		}
	}
}

// TestNone: P13.10, a nil and a zero core.
func TestNone(t *testing.T) {
	for what, c := range map[string]*pair.Core{"a nil core": nil, "a zero core": {}} {
		for range 2 {
			nothing(t, "P13.10: "+what+": Adopt", c.Adopt(viewOf(1, 1, 2)))
			nothing(t, "P13.10: "+what+": Adopt", c.Adopt(viewOf(0, 0, 0)))
			nothing(t, "P13.10: "+what+": Tick", c.Tick())
			for kind := range 30 {
				for _, from := range ends() {
					nothing(t, "P13.10: "+what+": Take", c.Take(from, noteOf(kind, 0)))
					nothing(t, "P13.10: "+what+": Take", c.Take(from, appends(1, 0, 0, 1, ent(1, 1))))
				}
			}
			refuses(t, what, c, api.ErrInactive)
			if c.View() != (api.View{}) || c.Active() || c.Commit() != 0 || c.Log() != nil {
				t.Errorf("P13.10: %s tells %v, %v, %d", what, c.View(), c.Active(), c.Commit())
			}
		}
	}
}

// TestTwoCores: what one core is told, another one does not know.
func TestTwoCores(t *testing.T) {
	for seed := range uint64(60) {
		c := chanceOf(seed, 2)
		var cores []*pair.Core
		var likes []*again
		for self := 1; self <= 2; self++ {
			core, g := started(t, self, 1+c.IntN(4), c.journal(1))
			cores, likes = append(cores, core), append(likes, g)
		}
		for range 80 {
			i := c.IntN(2)
			goesLike(t, &cores[i], likes[i], c.call(likes[i]))
			if other := lookAt(t, cores[1-i]); !other.is(likes[1-i].look()) {
				t.Fatalf("W2: a call of one core turns another into %s", tell(other))
			}
		}
	}
}
