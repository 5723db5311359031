package world_test

import (
	"slices"
	"testing"

	"herald/api"
)

// mood is how much trouble there is in a play: of a hundred steps, how many are of such a kind.
type mood struct {
	lost, doubled, spoilt, within int // of messages
	crashes, restarts, promotes   int // of all else
	late                          int // 0: mostly the oldest messages arrive, 1: any, 2: mostly the newest, so that others come very late, 3: mostly the service's, so that views change ahead of all else
}

func (c chance) mood() mood {
	return pick(c,
		mood{1, 1, 0, 0, 0, 0, 0, c.IntN(3)},
		mood{2, 2, 1, 1, 1, 6, 4, c.IntN(3)},
		mood{4, 2, 1, 2, 3, 7, 6, c.IntN(3)},
		mood{0, 0, 0, 3, 0, 20, 0, c.IntN(3)},
		mood{20, 5, 5, 0, 1, 6, 2, c.IntN(3)},
		mood{2, 10, 2, 0, 0, 3, 10, c.IntN(3)},
		mood{1, 1, 0, 1, 1, 10, 20, 3},
		mood{15, 0, 0, 0, 0, 0, 30, 3})
}

// message is the place of one among those in flight.
func (m mood) message(c chance, flight []api.Message) int {
	few := c.IntN(min(len(flight), 1+c.IntN(12)))
	switch {
	case m.late == 1:
		return c.IntN(len(flight))
	case m.late == 2 && c.IntN(20) > 0:
		return -1 - few
	case m.late == 3 && c.IntN(4) > 0:
		isService := func(m api.Message) bool { return m.From == 0 && m.To < 100 || m.To == 0 && m.From < 100 }
		if at := slices.IndexFunc(flight, isService); at >= 0 {
			return at
		}
	}
	return few
}

// step is one by chance.
func (x *witness) step(c chance, m mood) api.Step {
	_, flight := x.w.Flight()
	if m.late == 3 && c.IntN(3) == 0 {
		return pick(c, promotes(pick(c, x.members()...), c.IntN(x.rules.Nodes+1)), ticks(pick(c, x.members()...)))
	}
	if len(flight) > 0 && c.IntN(100) < 84 {
		a := m.message(c, flight)
		switch k := c.IntN(100); {
		case k < m.lost:
			return drops(a)
		case k < m.lost+m.doubled:
			return doubles(a)
		case k < m.lost+m.doubled+m.spoilt:
			return spoils(a, c.IntN(1000)-500, 1+c.IntN(255))
		case k < m.lost+m.doubled+m.spoilt+m.within:
			return withins(a, pick(c, c.IntN(400), c.IntN(8), -1-c.IntN(3)))
		}
		return delivers(a)
	}
	some := 1 + c.IntN(x.rules.Nodes)
	switch k := c.IntN(100); {
	case k < m.crashes:
		return crashes(some)
	case k < m.crashes+m.restarts:
		return restarts(some)
	case k < m.crashes+m.restarts+m.promotes:
		return promotes(pick(c, x.members()...), c.IntN(x.rules.Nodes+1))
	case k < 36:
		return ticks(some)
	case k < 42:
		return ticks(101 + c.IntN(x.rules.Clients))
	case k < 44:
		return saves(some)
	}
	return x.wish(c, 1+c.IntN(x.rules.Clients))
}

// wish is what a client might want.
func (x *witness) wish(c chance, i int) api.Step {
	g := x.guests[i]
	switch k := c.IntN(60); {
	case k == 0:
		return begins(i)
	case k == 1:
		return finishes(i)
	case k == 2:
		return unwatches(i, pick(c, append(g.watches, api.Watch{})...).Id)
	case k < 16 && len(g.watches) < 2, k == 3:
		return watches(i, c.place(), pick(c, 1, 2, 3, 3, 3))
	case g.session == 0:
		return begins(i)
	case g.asked == [2]int{}, k == 4:
		return does(i, x.ops(c)...)
	}
	return ticks(100 + i)
}

// ops are those of a request; half of them are sure to change something, if nobody else is quicker.
func (x *witness) ops(c chance) []api.Op {
	at := c.place()
	switch {
	case c.IntN(2) == 0 || at == "/":
		return c.ops()
	case len(x.parts[len(x.history)][spot{at, api.WatchNode}].Nodes) == 0:
		return []api.Op{makes(at, "new")}
	case c.IntN(4) == 0:
		return []api.Op{{Kind: api.OpDrop, Place: at, Version: -1}}
	}
	return []api.Op{sets(at, pick(c, "x", "other data"))}
}

// rounds lets everybody tick and everything arrive, so many times; by StepCalm, or step by step.
func (x *witness) rounds(c chance, count int) {
	x.t.Helper()
	if c.IntN(2) == 0 {
		x.play(calms(count))
		return
	}
	for range count {
		for i := 1; i <= x.rules.Nodes; i++ {
			if x.hosts[i].sight.Up {
				x.play(ticks(i))
			}
		}
		for i := 1; i <= x.rules.Clients; i++ {
			x.play(ticks(100 + i))
		}
		for range 1024 {
			if x.play(delivers(0)) != api.OK {
				break
			}
		}
	}
}

// calm lets the members of the present view run, and holds P17.9.
func (x *witness) calm(c chance) {
	x.t.Helper()
	for _, i := range x.members() {
		if !x.hosts[i].sight.Up {
			x.play(restarts(i))
		}
	}
	isAsked := slices.ContainsFunc(x.guests, func(g guest) bool { return g.asked != [2]int{} })
	x.rounds(c, 24)
	if isAsked {
		x.rounds(c, 1)
	}
	why := x.isRestless()
	for range 4 {
		if why == "" || x.rules.Lease == 0 {
			break
		}
		x.seen["later"]++
		x.rounds(c, 1)
		why = x.isRestless()
	}
	if why != "" {
		x.t.Errorf("P17.9: %s", why)
	}
}

// played plays a world by chance, and calms it twice.
func played(t *testing.T, seed uint64, steps int, seen map[string]int) {
	t.Helper()
	c := chanceOf(seed, 17)
	x, m := witnessOf(t, c.rules(), seen), c.mood()
	for range 2 {
		if c.IntN(2) == 0 {
			x.rounds(c, 4)
		}
		for range steps {
			x.play(x.step(c, m))
			if c.IntN(20) == 0 {
				x.lookAtJournal(c, 1+c.IntN(x.rules.Nodes))
			}
			if t.Failed() {
				t.Fatalf("seed %d, step %d, %+v", seed, x.steps, x.rules)
			}
		}
		if x.rules.Ring >= 8 {
			x.calm(c)
		}
		if t.Failed() {
			t.Fatalf("seed %d, calm at the step %d, %+v", seed, x.steps, x.rules)
		}
	}
	seen["views"] += len(x.w.Views())
	seen["steps"] += x.steps
}

// TestPlays: P17.9, P17.10 and P0.1 to P0.10, over plays whose messages are lost, doubled, spoilt or late, and whose nodes stop, also within an event, start again and change places.
func TestPlays(t *testing.T) {
	t.Parallel()
	seen := map[string]int{}
	for seed := range uint64(60) {
		played(t, seed, 400, seen)
	}
	for what, times := range map[string]int{"event": 150, "marker": 40, "told 2": 600, "told 4": 200, "told 9": 80, "told 10": 15, "entry 4": 40, "note 19": 8, "views": 120, "step 1 0": 20000, "step 2 0": 800, "step 3 0": 600, "step 4 0": 250, "step 6 0": 40, "step 7 0": 60, "step 8 0": 100, "step 9 0": 60, "step 10 0": 100, "step 16 0": 50} {
		if seen[what] < times {
			t.Errorf("the plays have %q only %d times", what, seen[what])
		}
	}
}
