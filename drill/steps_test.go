package drill_test

import (
	"testing"

	"herald/api"
	"herald/drill"
)

// stays holds that a step is refused, and that it does nothing at all.
func stays(t *testing.T, d *drill.Drill, s api.Step, want api.Errno) {
	t.Helper()
	before := wholeOf(d)
	tells(t, d, s, want)
	is(t, "P21.2: what a drill shows behind a step that does nothing", wholeOf(d), before)
}

// TestLeaveOfNobody: P21.2, StepLeave of a client that there isn't, or that has no recipe, does nothing: no wish is tried, and no step of the world counts.
func TestLeaveOfNobody(t *testing.T) {
	for _, jobs := range [][]api.Job{nil, {jobOf(api.JobLock)}, {{}, {}, jobOf(api.JobTake)}, {jobOf(api.JobPut), {}, jobOf(api.JobLock)}} {
		for _, a := range append(ends(), -3, 4, 5, 6, 7, 100, 101, 102, 103) {
			if 1 <= a && a <= len(jobs) && jobs[a-1] != (api.Job{}) {
				continue
			}
			d := begun(t, rulesOf(1, 3), jobs...)
			stays(t, d, leaves(a), api.ErrDrill)
			plays(t, d, begins(1), begins(2), begins(3), calms(4))
			before := steps(t, d, 2)
			d.Want(2, toWatch("/a", 1))
			s := leaves(a)
			s.B, s.C, s.Place, s.Ops = 1, 1, "/", []api.Op{gets("/")}
			stays(t, d, s, api.ErrDrill)
			tells(t, d, idle(), api.OK, watched(before+1, 2, 2, 2, "/a", 1))
		}
	}
}

// TestLeaveEarly: P21.2, a recipe that leaves ahead of its session is done, and does not begin; that of another client does.
func TestLeaveEarly(t *testing.T) {
	for _, kind := range allKinds() {
		for _, ahead := range [][]api.Step{nil, {begins(1)}, {begins(1), delivers(0)}} { // the last one: the answer is under way
			d := begun(t, rulesOf(1, 2), jobOf(kind), jobOf(kind))
			plays(t, d, ahead...)
			before := sightOf(d.World())
			tells(t, d, leaves(1), api.OK)
			is(t, "P21.2: the world behind a step that is nothing for it", sightOf(d.World()), before)
			stands(t, d, "done", "out")
			stays(t, d, leaves(1), api.OK)
			if len(ahead) == 0 {
				plays(t, d, begins(1))
			}
			plays(t, d, begins(2))
			for _, k := range plays(t, d, calms(4)) {
				if k.Client == 1 && k.Kind != api.ToldBegun || k.Client == 2 && k.Kind != api.ToldBegun && k.Kind != api.ToldCall {
					t.Errorf("P21.2: told %s", tell(k))
				}
			}
			stands(t, d, "done", "asking")
		}
	}
}

// TestLeaveLate: P21.2, what a recipe that leaves wants is done at once, if it can be, or else as soon as it can be.
func TestLeaveLate(t *testing.T) {
	for kind, end := range map[int]string{api.JobLock: "done at 7", api.JobElect: "done at 6 it", api.JobBarrier: "done at 6"} {
		d := opened(t, 2, jobOf(kind))
		for range 4 {
			plays(t, d, calms(1))
		}
		node := base + "/" + nameOf(kind) + "00000"
		if h := d.Sights()[0]; h.Place != node {
			t.Fatalf("the job is %+v", h)
		}
		plays(t, d, does(1, gets("/")))
		before := steps(t, d, 2)
		drop := called(0, 1, 1, 0, dropsAt(node))
		told := plays(t, d, leaves(1)) // no step of the world itself
		for _, k := range told {
			if k.Kind != api.ToldUnwatch || k.Step != before {
				t.Errorf("P21.2: told %s", tell(k))
			}
		}
		isWatcher := kind != api.JobLock
		if (len(told) == 1) != isWatcher || len(told) > 1 {
			t.Errorf("P21.2: told %s", tell(told))
		}
		told = plays(t, d, calms(2))
		last := told[len(told)-1]
		last.Step, last.Request = 0, 0
		is(t, "P21.2: what is done when the request that was open has its answer", last, drop)
		plays(t, d, calms(1))
		stands(t, d, end, "out")
		stays(t, d, leaves(1), api.OK)
	}
	for _, kind := range []int{api.JobCounter, api.JobPut, api.JobTake} {
		d := opened(t, 2, jobOf(kind))
		stands(t, d, "asking", "out")
		tells(t, d, leaves(1), api.OK)
		stands(t, d, "asking", "out")
		plays(t, d, calms(1))
		stands(t, d, "done", "out")
	}
}

// TestLeaveBehind: P21.2, what Leave answers stands behind the wishes that the client has.
func TestLeaveBehind(t *testing.T) {
	d := opened(t, 1, jobOf(api.JobLock))
	for range 4 {
		plays(t, d, calms(1))
	}
	before := steps(t, d, 1)
	d.Want(1, toWatch("/a", 1), toDo(gets("/")))
	tells(t, d, leaves(1), api.OK, watched(before, 1, 1, 2, "/a", 1), called(before+1, 1, 1, 4, gets("/"))) // and two tries of the drop
	told := plays(t, d, delivers(-1), delivers(-1))
	is(t, "P21.2: what is done last", told[len(told)-1], called(before+7, 1, 1, 5, dropsAt("/l/lock-00000")))
}

// TestOwnRequest: P21.2, a request of a script's own stands in the way of what a recipe wants, until it is answered; nobody else waits for it.
func TestOwnRequest(t *testing.T) {
	d := opened(t, 2, jobOf(api.JobElect), jobOf(api.JobLock))
	for range 5 {
		plays(t, d, calms(1))
	}
	stands(t, d, "in /l/vote-00000 at 6 it", "in /l/lock-00001 at 7")
	tells(t, d, does(1, makes("/a", "", 0)), api.OK, called(14, 1, 1, 3, makes("/a", "", 0)))
	tells(t, d, does(1, makes("/b", "", 0)), api.ErrClient)
	tells(t, d, leaves(1), api.OK, unwatched(16, 1, 1, 1, base, api.WatchSubtree)) // 17, 18: the drop is tried
	tells(t, d, leaves(2), api.OK, called(20, 2, 2, 4, dropsAt("/l/lock-00001")))
	told := plays(t, d, calms(1))
	var calls []api.Told
	for _, k := range told {
		if k.Kind == api.ToldCall {
			k.Step = 0
			calls = append(calls, k)
		}
	}
	is(t, "P21.2: done behind the answer", calls, []api.Told{called(0, 1, 1, 4, dropsAt("/l/vote-00000"))})
	plays(t, d, calms(1))
	stands(t, d, "done at 10 it", "done at 9")
}

// refusal is a step that a world refuses.
type refusal struct {
	way  []api.Step
	step api.Step
	code api.Errno
}

func refusals() []refusal {
	four := []api.Step{watches(1, "/", 1), watches(1, "/", 1), watches(1, "/", 1), watches(1, "/", 1)}
	return []refusal{
		{nil, delivers(0), api.ErrFlight}, {nil, drops(0), api.ErrFlight}, {nil, doubles(0), api.ErrFlight}, {nil, spoils(0, 0, 1), api.ErrFlight}, {nil, withins(0, 0), api.ErrFlight},
		{nil, spoils(0, 0, 0), api.ErrStep}, {[]api.Step{ticks(1), spoils(0, 1, 1)}, spoils(0, 1, 1), api.ErrSpoilt}, {[]api.Step{ticks(1)}, withins(0, 0), api.ErrStep},
		{nil, ticks(3), api.ErrStep}, {[]api.Step{crashes(1)}, ticks(1), api.ErrDown}, {nil, crashes(0), api.ErrStep}, {[]api.Step{crashes(1)}, crashes(1), api.ErrDown},
		{nil, restarts(1), api.ErrStep}, {nil, promotes(2, 0), api.ErrView}, {nil, saves(9), api.ErrStep}, {[]api.Step{crashes(1)}, saves(1), api.ErrDown},
		{nil, does(3, gets("/")), api.ErrStep}, {nil, does(1, make([]api.Op, 5)...), api.ErrLong}, {nil, does(1, api.Op{Kind: -1}), api.ErrArg}, {[]api.Step{does(1, gets("/"))}, does(1, gets("/")), api.ErrClient},
		{nil, watches(3, "/", 1), api.ErrStep}, {nil, watches(1, "a", 1), api.ErrPlace}, {nil, watches(1, "/", 0), api.ErrArg}, {four, watches(1, "/", 1), api.ErrFull},
		{nil, unwatches(0, 1), api.ErrStep}, {nil, unwatches(1, 1), api.ErrClient}, {nil, begins(-1), api.ErrStep}, {nil, begins(1), api.ErrClient},
		{nil, finishes(3), api.ErrStep}, {[]api.Step{finishes(1)}, finishes(1), api.ErrClient}, {nil, calms(0), api.ErrStep}, {nil, calms(65), api.ErrStep},
		{nil, stepOf(0), api.ErrStep}, {nil, stepOf(18), api.ErrStep}, {nil, stepOf(-17), api.ErrStep},
	}
}

// TestBehindRefused: P21.2, wishes are done behind a step that the world refuses, too; what they tell is told beside the error, and the refused step counts.
func TestBehindRefused(t *testing.T) {
	for _, r := range refusals() {
		d := opened(t, 2)
		plays(t, d, r.way...)
		tells(t, d, r.step, r.code)
		number := 4 + len(r.way)
		d.Want(2, toWatch("/a", 1))
		tells(t, d, r.step, r.code, watched(number+1, 2, 2, 1, "/a", 1))
		d.Want(2, toUnwatch(1), toUnwatch(1))
		if r.step.Kind <= api.StepWithin && r.step.Kind != api.StepTick { // there is a message in flight now
			continue
		}
		tells(t, d, r.step, r.code, unwatched(number+3, 2, 2, 1, "/a", 1))
	}
}

// TestOthersDoNotHear: P21.2, a thing told is heard by the recipe of its client alone, though all else of it is like what another one waits for.
func TestOthersDoNotHear(t *testing.T) {
	d := begun(t, rulesOf(1, 3), jobOf(api.JobCounter), jobOf(api.JobCounter), api.Job{})
	plays(t, d, begins(1), begins(2), begins(3), calms(4))
	stands(t, d, "asking", "asking", "out")
	arrive(t, d, 102)
	for range 9 {
		arrive(t, d, 102)
	}
	stands(t, d, "done at 8 1 2", "asking", "out")
	for range 12 {
		plays(t, d, calms(1))
	}
	stands(t, d, "done at 8 1 2", "done at 13 3 4", "out")
}

// TestTwoDrills: P21.6, two drills with the same jobs, played in turns, do not touch one another.
func TestTwoDrills(t *testing.T) {
	t.Parallel()
	for seed := range uint64(20) {
		c := chanceOf(seed, 214)
		rules := c.rules()
		jobs := c.jobs(rules)
		a, b := begun(t, rules, jobs...), begun(t, rules, jobs...)
		f, g := againOf(rules, jobs...), againOf(rules, jobs...)
		for range 200 {
			if c.IntN(2) == 0 {
				f.stepsAlike(t, a, c.anyStep(rules))
			} else {
				g.stepsAlike(t, b, c.anyStep(rules))
			}
		}
		f.isLike(t, a)
		if g.isLike(t, b); t.Failed() {
			t.Fatalf("seed %d, %+v, %+v", seed, rules, jobs)
		}
	}
}
