package audit_test

import (
	"fmt"
	"strings"
	"sync"
	"testing"

	"herald/api"
)

func stepOf(kind int, numbers ...int) api.Step {
	numbers = append(numbers, 0, 0, 0)
	return api.Step{Kind: kind, A: numbers[0], B: numbers[1], C: numbers[2]}
}

// mood is how much trouble there is in a play: of a hundred steps, how many are of such a kind.
type mood struct {
	lost, doubled, spoilt, within int // of messages
	crashes, restarts, promotes   int // of all else
	late                          int // 0: mostly the oldest messages arrive, 1: any, 2: mostly the newest, so that others come very late
}

func (c chance) mood() mood {
	return pick(c,
		mood{0, 0, 0, 0, 0, 0, 0, 0},
		mood{1, 1, 0, 0, 0, 0, 0, c.IntN(3)},
		mood{2, 2, 1, 1, 1, 6, 4, c.IntN(3)},
		mood{4, 2, 1, 2, 3, 7, 6, c.IntN(3)},
		mood{0, 0, 0, 3, 0, 20, 0, c.IntN(3)},
		mood{20, 5, 5, 0, 1, 6, 2, c.IntN(3)},
		mood{2, 10, 2, 0, 0, 3, 10, c.IntN(3)},
		mood{8, 0, 0, 0, 2, 9, 20, 0})
}

// rules are such as a play may have.
func (c chance) rules() api.Rules {
	return api.Rules{Nodes: pick(c, 1, 2, 2, 3, 3, 5), Clients: 1 + c.IntN(4), Queue: pick(c, 1, 2, 4, 32), Ring: pick(c, 1, 2, 8, 8, 9, 16, 64), Window: pick(c, 1, 2, 8), Lease: pick(c, 0, 0, 0, 1, 3, 20)}
}

// worldPlaces are those of which the clients of plays speak.
var worldPlaces = []string{"/", "/a", "/a/b", "/a/n00000", "/c", "/c/n00001"}

// worldOps are those of a request; half of them are sure to change something, if nobody else is quicker.
func (x *witness) worldOps(c chance) []api.Op {
	at := pick(c, worldPlaces...)
	node, _ := x.truth.part(api.Shot{Stamp: len(x.truth.history), Place: at, Kind: api.WatchNode})
	switch {
	case c.IntN(2) == 0 || at == "/":
		return c.anyOps()
	case len(node) == 0:
		return []api.Op{makes(at, "new")}
	case c.IntN(4) == 0:
		return []api.Op{drops(at)}
	}
	return []api.Op{sets(at, pick(c, "x", "other data"))}
}

func (c chance) anyOps() []api.Op {
	var ops []api.Op
	for range pick(c, 1, 1, 1, 2, 3, 4) {
		o := api.Op{Kind: pick(c, 1, 1, 1, 1, 2, 2, 2, 3, 4, 5, 6, 7, 0, 8), Place: pick(c, worldPlaces...), Data: pick(c, "", "x", strings.Repeat("d", api.MaxData+c.IntN(2)))}
		switch o.Kind {
		case api.OpMake:
			o.Flags = pick(c, 0, 0, api.FlagBrief, api.FlagCounted, api.FlagBrief|api.FlagCounted)
			if o.Flags&api.FlagCounted != 0 {
				o.Place = pick(c, "/n", "/a/n", "/c/n")
			}
		case api.OpSet, api.OpDrop, api.OpCheck:
			o.Version = pick(c, -1, -1, -1, 0, 1)
		}
		ops = append(ops, o)
	}
	return ops
}

// step is one by chance.
func (x *witness) step(c chance, m mood) api.Step {
	_, flight := x.w.Flight()
	if len(flight) > 0 && c.IntN(100) < 84 {
		return c.aboutMessage(m, len(flight))
	}
	some := 1 + c.IntN(x.rules.Nodes)
	switch k := c.IntN(100); {
	case k < m.crashes:
		return stepOf(api.StepCrash, some)
	case k < m.crashes+m.restarts:
		return stepOf(api.StepRestart, some)
	case k < m.crashes+m.restarts+m.promotes:
		return stepOf(api.StepPromote, pick(c, x.members()...), c.IntN(x.rules.Nodes+1))
	case k < 36:
		return stepOf(api.StepTick, some)
	case k < 42:
		return stepOf(api.StepTick, 101+c.IntN(x.rules.Clients))
	case k < 44:
		return stepOf(api.StepSave, some)
	case k < 45:
		return stepOf(api.StepCalm, 1)
	}
	return x.wish(c, 1+c.IntN(x.rules.Clients))
}

func (c chance) aboutMessage(m mood, flight int) api.Step {
	a := c.IntN(min(flight, 1+c.IntN(12)))
	if m.late == 1 {
		a = c.IntN(flight)
	} else if m.late == 2 && c.IntN(20) > 0 {
		a = -1 - a
	}
	switch k := c.IntN(100); {
	case k < m.lost:
		return stepOf(api.StepDrop, a)
	case k < m.lost+m.doubled:
		return stepOf(api.StepDouble, a)
	case k < m.lost+m.doubled+m.spoilt:
		return stepOf(api.StepSpoil, a, c.IntN(1000)-500, 1+c.IntN(255))
	case k < m.lost+m.doubled+m.spoilt+m.within:
		return stepOf(api.StepWithin, a, pick(c, c.IntN(400), c.IntN(8), -1-c.IntN(3)))
	}
	return stepOf(api.StepDeliver, a)
}

// wish is what a client might want.
func (x *witness) wish(c chance, i int) api.Step {
	session, told := x.sessionNow(i)
	watches := watchesBehind(told)
	switch k := c.IntN(60); {
	case k == 0:
		return stepOf(api.StepBegin, i)
	case k == 1:
		return stepOf(api.StepEnd, i)
	case k == 2:
		return stepOf(api.StepUnwatch, i, pick(c, append(watches, api.Watch{})...).Id)
	case k < 16 && len(watches) < 2, k == 3:
		return api.Step{Kind: api.StepWatch, A: i, B: pick(c, 1, 2, 3, 3, 3), Place: pick(c, worldPlaces...)}
	case session == 0:
		return stepOf(api.StepBegin, i)
	case !isAsking(told), k == 4:
		return api.Step{Kind: api.StepDo, A: i, Ops: x.worldOps(c)}
	}
	return stepOf(api.StepTick, 100+i)
}

// played plays a world by chance, and calms it twice.
func played(t *testing.T, seed uint64, steps int, seen map[string]int) *witness {
	t.Helper()
	c := chanceOf(seed, 19)
	x, m := witnessOf(t, c.rules(), seen), c.mood()
	for range 2 {
		if c.IntN(2) == 0 {
			x.play(stepOf(api.StepCalm, 4))
		}
		for range steps {
			x.play(x.step(c, m))
			if c.IntN(20) == 0 {
				x.lookAtJournal(c, 1+c.IntN(x.rules.Nodes))
			}
			if t.Failed() {
				t.Fatalf("seed %d, step %d, %+v", seed, x.steps, x.rules)
			}
		}
		if x.rules.Ring >= 8 {
			x.calm()
		}
		if t.Failed() {
			t.Fatalf("seed %d, calm at the step %d, %+v", seed, x.steps, x.rules)
		}
	}
	return x
}

// TestPlays: P19.5 and P0.1 to P0.10, over long plays of worlds whose messages are lost, doubled, spoilt or late, and whose nodes stop, also within an event, start again and change places; and the lies of P19.5.
func TestPlays(t *testing.T) {
	t.Parallel()
	var mutex sync.Mutex
	all := map[string]int{}
	t.Run("by chance", func(t *testing.T) {
		for part := range uint64(8) {
			t.Run(fmt.Sprint(part), func(t *testing.T) {
				t.Parallel()
				seen := map[string]int{}
				for seed := range uint64(15) {
					x := played(t, 8*seed+part, 400, seen)
					x.seesAsClients()
					x.lies(seen)
				}
				mutex.Lock()
				defer mutex.Unlock()
				for what, times := range seen {
					all[what] += times
				}
			})
		}
	})
	enough := map[string]int{
		"told 1": 400, "told 2": 300, "told 4": 150, "told 5": 200, "told 9": 60, "told 10": 15, "entry 1": 400, "entry 2": 100, "entry 3": 5, "entry 4": 30, "seen": 200,
		"step 1 0": 15000, "step 2 0": 600, "step 3 0": 400, "step 4 0": 200, "step 6 0": 30, "step 7 0": 40, "step 8 0": 80, "step 9 0": 60, "step 10 0": 80, "step 16 0": 100,
	}
	for what, times := range enough {
		if all[what] < times {
			t.Errorf("the plays have %q only %d times", what, all[what])
		}
	}
	for _, what := range lieNames() {
		if all[what] < 30 {
			t.Errorf("the plays have the lie %q only %d times", what, all[what])
		}
	}
}
