package drill_test

import (
	"slices"
	"testing"

	"herald/api"
	"herald/drill"
	"herald/recipe"
	"herald/world"
)

// again is a drill by other means: one list for the wishes of all clients, and a pass that goes along it with a finger.
type again struct {
	clients  int
	w        *world.World
	machines map[int]*recipe.Machine
	wishes   []wished
	told     []api.Told // in this step
	count    int        // the world's steps so far
	tried    int        // wishes, at any time
	off      int        // wishes that are off the list, at any time
}

// wished is a wish of a client.
type wished struct {
	client int
	api.Wish
}

func againOf(rules api.Rules, jobs ...api.Job) *again {
	g := &again{clients: rules.Clients, machines: map[int]*recipe.Machine{}}
	g.w, _ = world.New(rules)
	for i, job := range jobs {
		if m, code := recipe.New(job); code == api.OK {
			g.machines[i+1] = m
		}
	}
	return g
}

func (g *again) wants(client int, wishes ...api.Wish) {
	for _, w := range wishes {
		g.wishes = append(g.wishes, wished{client, w})
	}
}

// hears plays a step of the world, and lets the machines hear of it.
func (g *again) hears(s api.Step) api.Errno {
	told, code := g.w.Step(s)
	g.count++
	for _, k := range told {
		g.told = append(g.told, k)
		m, isThere := g.machines[k.Client]
		if !isThere {
			continue
		}
		if k.Kind == api.ToldEnd || k.Kind == api.ToldGone {
			g.wishes = slices.DeleteFunc(g.wishes, func(w wished) bool { return w.client == k.Client })
		}
		g.wants(k.Client, m.Hear(k)...)
		if k.Kind == api.ToldBegun {
			g.wants(k.Client, m.Begin()...)
		}
	}
	return code
}

// tries tries a wish, and tells whether it is to be tried again later.
func (g *again) tries(w wished) bool {
	s := api.Step{A: w.client}
	switch w.Kind {
	case 1:
		s.Kind, s.Ops = 11, w.Ops
	case 2:
		s.Kind, s.Place, s.B = 12, w.Place, w.Watch
	case 3:
		s.Kind, s.B = 13, w.Id
	default:
		return false
	}
	g.tried++
	code := g.hears(s)
	return code == 150 || code == 46
}

func (g *again) pass() int {
	done := 0
	for client := 1; client <= g.clients; client++ {
		for {
			at := slices.IndexFunc(g.wishes, func(w wished) bool { return w.client == client })
			if at < 0 || g.tries(g.wishes[at]) {
				break
			}
			g.wishes = slices.Delete(g.wishes, at, at+1)
			done++
		}
	}
	g.off += done
	return done
}

// step plays one, and tells what the clients were told or did.
func (g *again) step(s api.Step) ([]api.Told, api.Errno) {
	g.told = nil
	code := api.OK
	if s.Kind != api.StepLeave {
		code = g.hears(s)
	} else if m, isThere := g.machines[s.A]; isThere {
		g.wants(s.A, m.Leave()...)
	} else {
		return nil, api.ErrDrill
	}
	for g.pass() > 0 {
	}
	return g.told, code
}

func (g *again) sights() []api.Held {
	all := make([]api.Held, g.clients)
	for k, m := range g.machines {
		all[k-1] = m.Sight()
	}
	return all
}

func (g *again) whole() whole { return whole{g.sights(), sightOf(g.w)} }

// stepsAlike plays a step in both drills, and holds what it answers.
func (g *again) stepsAlike(t *testing.T, d *drill.Drill, s api.Step) api.Errno {
	t.Helper()
	told, code := d.Step(s)
	want, wantCode := g.step(s)
	if code != wantCode || !same(told, want) {
		t.Errorf("P21.2: the step %s = %d, %s\nwant %d, %s", tell(s), code, tell(told), wantCode, tell(want))
	}
	if sights := d.Sights(); !same(sights, g.sights()) {
		t.Errorf("P21.4: behind %s Sights is %s\nwant %s", tell(s), tell(sights), tell(g.sights()))
	}
	return code
}

// wantsAlike puts wishes behind those of a client, in both drills.
func (g *again) wantsAlike(d *drill.Drill, client int, wishes ...api.Wish) {
	d.Want(client, wishes...)
	g.wants(client, wishes...)
}

// isLike holds all that a drill shows against what it should show.
func (g *again) isLike(t *testing.T, d *drill.Drill) {
	t.Helper()
	is(t, "what a drill shows", wholeOf(d), g.whole())
}

// standing is how a drill is when a small script begins.
type standing struct {
	name  string
	rules api.Rules
	jobs  []api.Job
	steps []api.Step
}

func standings() []standing {
	begin := []api.Step{begins(1), begins(2), calms(4)}
	later := slices.Concat(begin, slices.Repeat([]api.Step{calms(1)}, 8))
	pairs := []struct {
		name          string
		first, second int
	}{{"locks", api.JobLock, api.JobLock}, {"elections", api.JobElect, api.JobElect}, {"barriers", api.JobBarrier, api.JobBarrier}, {"counters", api.JobCounter, api.JobCounter}, {"a queue", api.JobPut, api.JobTake}, {"unlike jobs", api.JobTake, api.JobLock}}
	var all []standing
	for _, p := range pairs {
		jobs := []api.Job{jobOf(p.first), jobOf(p.second)}
		all = append(all, standing{p.name + " begun", rulesOf(2, 2), jobs, begin}, standing{p.name + " later", rulesOf(2, 2), jobs, later})
	}
	return append(all,
		standing{"new", rulesOf(1, 2), []api.Job{{}, jobOf(api.JobLock)}, nil},
		standing{"without a primary", rulesOf(2, 2), []api.Job{jobOf(api.JobLock), jobOf(api.JobTake)}, slices.Concat(later, []api.Step{crashes(1), promotes(2, 0)})},
		standing{"full of watches", rulesOf(1, 2), []api.Job{jobOf(api.JobElect), jobOf(api.JobElect)}, slices.Concat(begin, slices.Repeat([]api.Step{watches(2, "/", 1)}, 4), later[3:])},
		standing{"about to end", api.Rules{Nodes: 1, Clients: 2, Queue: 1, Ring: 8, Window: 1, Lease: 1}, []api.Job{jobOf(api.JobBarrier), jobOf(api.JobLock)}, slices.Concat(later, []api.Step{ticks(1), ticks(1), delivers(-1)})},
	)
}

func (s standing) begins(t *testing.T) (*drill.Drill, *again) {
	t.Helper()
	d, g := begun(t, s.rules, s.jobs...), againOf(s.rules, s.jobs...)
	for _, step := range s.steps {
		if code := g.stepsAlike(t, d, step); code != api.OK {
			t.Fatalf("%s: the step %+v is refused with %d", s.name, step, code)
		}
	}
	return d, g
}

// letters are the steps that small scripts are made of.
func letters() []api.Step {
	return []api.Step{
		delivers(0), delivers(-1), drops(0), doubles(0), spoils(-1, 5, 255), ticks(1), ticks(102), crashes(1), withins(0, -1), restarts(1), promotes(2, 1), saves(1),
		does(1, makes("/a", "y", 0), sets("/a", "z")), does(2, gets("/l")), watches(2, "/a", api.WatchNode), watches(1, "/l", api.WatchSubtree), unwatches(1, 1), unwatches(2, 1), unwatches(2, 2),
		begins(1), begins(2), finishes(1), finishes(2), leaves(0), leaves(1), leaves(2), leaves(3), calms(1), calms(4), stepOf(18),
	}
}

// TestSmallScripts: P21.2 to P21.4, each of thirty steps, and scripts of up to five of them by chance, in drills of sixteen standings.
func TestSmallScripts(t *testing.T) {
	all := letters()
	for _, from := range standings() {
		t.Run(from.name, func(t *testing.T) {
			t.Parallel()
			c := chanceOf(7, 210)
			for number := range len(all) + 300 {
				d, g := from.begins(t)
				script := []api.Step{all[number%len(all)]}
				if number >= len(all) {
					for range 1 + c.IntN(4) {
						script = append(script, pick(c, all...))
					}
				}
				for _, s := range script {
					g.stepsAlike(t, d, s)
				}
				if g.isLike(t, d); t.Failed() {
					t.Fatalf("the script %s", tell(script))
				}
			}
		})
	}
}

// job is one by chance, mostly at the base of all others.
func (c chance) job() api.Job {
	if c.IntN(8) == 0 {
		return api.Job{}
	}
	job := jobOf(pick(c, allKinds()...))
	if job.Size > 0 {
		job.Size = 1 + c.IntN(4)
	}
	job.Base = pick(c, base, base, base, base, "/", "/a/b", "/c")
	return job
}

func (c chance) rules() api.Rules {
	return api.Rules{Nodes: pick(c, 1, 1, 2, 2, 3, 5), Clients: 1 + c.IntN(6), Queue: pick(c, 1, 2, 4, 32), Ring: pick(c, 1, 2, 8, 16, 64), Window: pick(c, 1, 2, 8), Lease: pick(c, 0, 0, 0, 1, 3, 20)}
}

func (c chance) jobs(rules api.Rules) []api.Job {
	var jobs []api.Job
	for range c.IntN(rules.Clients + 1) {
		jobs = append(jobs, c.job())
	}
	return jobs
}

// ops are those of a request of a script's own.
func (c chance) ops() []api.Op {
	var ops []api.Op
	for range pick(c, 1, 1, 2, 4) {
		at := pick(c, "/", "/a", "/a/b", "/c", "/d", "/l/lock-00000", "/l")
		ops = append(ops, pick(c, makes(at, "x", 0), makes(at, "y", 0), makes("/c/n", "", 3), sets(at, "z"), dropsAt(at), gets(at), lists(at), api.Op{Kind: c.IntN(9), Place: at, Version: c.IntN(3) - 1}))
	}
	return ops
}

// anyStep is one of any kind, whose numbers are near what may be, or at times far from it.
func (c chance) anyStep(rules api.Rules) api.Step {
	s := api.Step{Kind: pick(c, 1, 1, 1, 1, 1, 1, 1, 1, 1, 2, 3, 4, 5, 5, 6, 7, 8, 8, 9, 10, 11, 11, 12, 12, 13, 13, 14, 14, 14, 15, 16, 16, 16, 16, 17, c.IntN(20)-1), A: 1 + c.IntN(rules.Clients), B: 1 + c.IntN(5), C: 1 + c.IntN(255)}
	s.Place = pick(c, "/", "/a", base, base, "/l/lock-00000", "no place")
	s.Ops = c.ops()
	switch {
	case s.Kind <= 4 || s.Kind == 7:
		s.A, s.B = c.IntN(9)-4, c.IntN(400)-50
	case s.Kind == 5:
		s.A = pick(c, 0, 1, 2, 3, 101, 102, 103)
	case s.Kind <= 10:
		s.A, s.B = c.IntN(rules.Nodes+2), c.IntN(rules.Nodes+2)
	case s.Kind == 16:
		s.A = pick(c, 1, 1, 2, 4)
	}
	switch c.IntN(60) {
	case 0:
		s.A = pick(c, ends()...)
	case 1:
		s.B = pick(c, ends()...)
	case 2:
		s.Kind = pick(c, ends()...)
	case 3:
		s.Ops = make([]api.Op, pick(c, 0, 4, 5, 9))
	}
	return s
}

// wish is one such as recipes have, or have never.
func (c chance) wish() api.Wish {
	return pick(c, toDo(c.ops()...), toDo(gets("/")), toDo(), toDo(make([]api.Op, 5)...), toDo(api.Op{Kind: -1}),
		toWatch("/a", 1+c.IntN(3)), toWatch(base, 1+c.IntN(3)), toWatch("no place", 1), toWatch("/a", 4), toUnwatch(c.IntN(5)), toUnwatch(1),
		api.Wish{}, api.Wish{Kind: 4, Ops: c.ops(), Place: "/a", Watch: 1, Id: 1}, api.Wish{Kind: pick(c, ends()...)})
}

// TestScripts: P21.2 to P21.4, along long scripts by chance; at times there are wishes that no recipe has.
func TestScripts(t *testing.T) {
	t.Parallel()
	seen, tried, off := map[[2]int]int{}, 0, 0
	for seed := range uint64(200) {
		c := chanceOf(seed, 211)
		rules := c.rules()
		jobs := c.jobs(rules)
		d, g := begun(t, rules, jobs...), againOf(rules, jobs...)
		for range 200 {
			if c.IntN(20) == 0 {
				for range 1 + c.IntN(3) {
					g.wantsAlike(d, 1+c.IntN(rules.Clients), c.wish())
				}
			}
			s := c.anyStep(rules)
			code := g.stepsAlike(t, d, s)
			if c.IntN(20) == 0 {
				g.isLike(t, d)
			}
			if t.Failed() {
				t.Fatalf("seed %d, %+v, %+v", seed, rules, jobs)
			}
			seen[[2]int{s.Kind, int(code)}]++
		}
		tried, off = tried+g.tried, off+g.off
	}
	for _, want := range [][2]int{{1, 0}, {1, 160}, {2, 0}, {3, 0}, {4, 0}, {5, 0}, {5, 140}, {5, 170}, {6, 0}, {6, 140}, {6, 170}, {7, 0}, {7, 170}, {8, 0}, {8, 170}, {9, 0}, {9, 120}, {9, 121}, {10, 0}, {10, 140}, {10, 170}, {11, 0}, {11, 150}, {12, 0}, {12, 1}, {12, 10}, {12, 46}, {12, 150}, {13, 0}, {13, 150}, {14, 0}, {14, 150}, {15, 0}, {15, 150}, {16, 0}, {17, 0}, {17, 210}, {18, 170}, {0, 170}, {-1, 170}} {
		if seen[want] < 5 {
			t.Errorf("the scripts have a step of the kind %d with the code %d only %d times", want[0], want[1], seen[want])
		}
	}
	if off < 2000 || tried-off < 20000 {
		t.Errorf("of %d tries only %d took a wish off the list", tried, off)
	}
}

// TestWithoutRecipes: P21.3, a drill without recipes is its world, step by step; a StepLeave alone is nothing for it.
func TestWithoutRecipes(t *testing.T) {
	t.Parallel()
	told := 0
	for seed := range uint64(60) {
		c := chanceOf(seed, 212)
		rules := c.rules()
		d, w := begun(t, rules, make([]api.Job, c.IntN(rules.Clients+1))...), begun(t, rules).World()
		for range 200 {
			s := c.anyStep(rules)
			if s.Kind == api.StepLeave {
				tells(t, d, s, api.ErrDrill)
				continue
			}
			want, code := w.Step(s)
			tells(t, d, s, code, want...)
			told += len(want)
		}
		is(t, "P21.3: the world", wholeOf(d), whole{make([]api.Held, rules.Clients), sightOf(w)})
		if t.Failed() {
			t.Fatalf("seed %d, %+v", seed, rules)
		}
	}
	if told < 1000 {
		t.Errorf("the worlds tell only %d things", told)
	}
}
