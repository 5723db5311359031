package world_test

import (
	"testing"

	"herald/api"
	"herald/world"
)

// TestCalmRounds: P17.4, how many rounds there may be; of one that is refused nothing happens.
func TestCalmRounds(t *testing.T) {
	for _, a := range append(ends(), -64, 32, 63, 64, 65, 128) {
		w, slow := begun(t, rulesOf(2, 1)), begun(t, rulesOf(2, 1))
		for _, v := range []*world.World{w, slow} {
			plays(t, v, begins(1))
		}
		if a < 1 || a > 64 {
			refuses(t, w, calms(a), api.ErrStep)
			continue
		}
		plays(t, w, calms(a))
		for range a {
			plays(t, slow, calms(1))
		}
		is(t, "P17.4: so many rounds at once, and one by one", sightOf(w), sightOf(slow))
	}
}

// byHand plays a round of a world step by step: nodes that run, by their numbers, then clients, then messages, the lowest number first.
func byHand(t *testing.T, w *world.World, rules api.Rules) []api.Told {
	t.Helper()
	var all []api.Told
	play := func(s api.Step) api.Errno {
		told, code := w.Step(s)
		all = append(all, told...)
		return code
	}
	for i := 1; i <= rules.Nodes; i++ {
		if code := play(ticks(i)); code != api.OK && code != api.ErrDown {
			t.Fatalf("P17.4: a tick of the node %d is refused with %d", i, code)
		}
	}
	for k := 1; k <= rules.Clients; k++ {
		play(ticks(100 + k))
	}
	for range 1024 {
		if play(delivers(0)) == api.ErrFlight {
			break
		}
	}
	return all
}

// TestRound: P17.4 and P17.5, a round is what its steps are, one by one: what it leaves, and what it tells, in that order.
func TestRound(t *testing.T) {
	t.Parallel()
	told := 0
	for seed := range uint64(60) {
		c := chanceOf(seed, 176)
		rules := c.rules()
		w, slow, g := begun(t, rules), begun(t, rules), againOf(rules)
		first := []api.Step{begins(1), calms(4), watches(1, "/", api.WatchSubtree), does(1, makes("/a", "x"))}
		for number := range 200 {
			s := c.anyStep(g)
			if number < len(first) {
				s = first[number]
			}
			g.step(s)
			w.Step(s)
			slow.Step(s)
			if c.IntN(10) > 0 {
				continue
			}
			g.step(calms(1))
			quick := plays(t, w, calms(1))
			slowly := byHand(t, slow, rules)
			if len(quick) != len(slowly) {
				t.Fatalf("P17.5: seed %d: a round tells %s, step by step it is %s", seed, tell(quick), tell(slowly))
			}
			for i := range quick {
				quick[i].Step = slowly[i].Step
			}
			is(t, "P17.5: what a round tells", quick, slowly)
			if is(t, "P17.4: what a round leaves", sightOf(w), sightOf(slow)); t.Failed() {
				t.Fatalf("seed %d", seed)
			}
			told += len(quick)
		}
	}
	if told < 200 {
		t.Errorf("the rounds tell only %d things", told)
	}
}

// TestRoundEnds: P17.4, in a round 1024 messages arrive and no more: so many probes that are answered by joinings, those by full transfers, and those acknowledged.
func TestRoundEnds(t *testing.T) {
	rules := api.Rules{Nodes: 3, Clients: 1, Queue: 4, Ring: 1, Window: 1}
	w, g := begun(t, rules), againOf(rules)
	play := func(steps ...api.Step) {
		t.Helper()
		for _, s := range steps {
			if code := g.stepsAlike(t, w, s); code != api.OK {
				t.Fatalf("the step %+v is refused with %d", s, code)
			}
		}
	}
	empty := func() {
		t.Helper()
		for _, messages := w.Flight(); len(messages) > 0; _, messages = w.Flight() {
			play(drops(0))
		}
	}
	play(begins(1), calms(6), does(1, makes("/a", "x")), calms(3), does(1, makes("/b", "x")), calms(3), promotes(1, 3))
	for _, i := range []int{3, 1} { // each takes the view over; the joining and the probe are lost
		play(ticks(i))
		for flight := flying(t, w); len(flight) > 0; flight = flying(t, w) {
			if flight[0] != [3]int{i, 0, api.NoteAsk} && flight[0] != [3]int{0, i, api.NoteTell} {
				play(drops(0))
				continue
			}
			play(delivers(0))
			if flight[0][2] == api.NoteTell {
				empty()
			}
		}
	}
	play(ticks(1), drops(0))
	is(t, "in flight", flying(t, w), [][3]int{{1, 3, api.NoteProbe}})
	fill(t, w, 256)
	for range 255 {
		g.step(doubles(0))
	}
	play(calms(1))
	numbers, _ := w.Flight()
	is(t, "P17.4: left behind 1024 messages", flying(t, w), [][3]int{{1, 0, api.NoteSettled}})
	g.isLike(t, w)
	play(calms(1))
	g.isLike(t, w)
	if after, _ := w.Flight(); len(after) > 0 {
		t.Errorf("P17.4: behind one more round %d are in flight, and were %d", len(after), len(numbers))
	}
}

// TestCalm: P17.9, an undisturbed world: what rounds it needs to be calm is far less than what is promised.
func TestCalm(t *testing.T) {
	for nodes := 1; nodes <= 5; nodes++ {
		seen := map[string]int{}
		x := witnessOf(t, api.Rules{Nodes: nodes, Clients: 6, Queue: 1, Ring: 8, Window: 1}, seen)
		for k := 1; k <= 6; k++ {
			x.play(begins(k))
		}
		x.play(calms(24))
		for k := 1; k <= 6; k++ {
			for _, at := range []string{"/", "/a", "/a/b", "/c"} {
				x.play(watches(k, at, api.WatchSubtree))
			}
			x.play(does(k, makes(somePlaces[k-1], "x"), makes(somePlaces[k-1]+"/n", "y")))
		}
		x.play(calms(24))
		x.play(calms(1))
		if why := x.isRestless(); why != "" {
			t.Errorf("P17.9: of %d nodes, %s", nodes, why)
		}
		for k := 1; k <= 6; k++ {
			if pictures, _ := x.w.Pictures(k); len(pictures) != 4 {
				t.Errorf("P17.9: of %d nodes, the client %d sees %s", nodes, k, tell(pictures))
			}
		}
	}
}
