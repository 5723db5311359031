package drill_test

import (
	"slices"
	"strconv"
	"testing"

	"herald/api"
)

// mood is how much trouble there is in a play: of a hundred steps, how many are of such a kind.
type mood struct {
	lost, doubled, spoilt, within int  // of messages
	crashes, restarts, promotes   int  // of all else
	late                          int  // 0: mostly the oldest messages arrive, 1: any, 2: mostly the newest, so that others come very late
	ends                          int  // of a hundred wishes of clients, how many are ends of sessions
	leaves                        int  // likewise
	meddles                       bool // the script asks for watches like those of the recipes, and gives these up
}

func (c chance) mood() mood {
	m := pick(c,
		mood{},
		mood{lost: 1, doubled: 1, restarts: 2, late: c.IntN(3)},
		mood{lost: 2, doubled: 2, spoilt: 1, within: 1, crashes: 1, restarts: 6, promotes: 4, late: c.IntN(3)},
		mood{lost: 4, doubled: 2, spoilt: 1, within: 2, crashes: 3, restarts: 7, promotes: 6, late: c.IntN(3)},
		mood{within: 3, restarts: 20, late: c.IntN(3)},
		mood{lost: 20, doubled: 5, spoilt: 5, crashes: 1, restarts: 6, promotes: 2, late: c.IntN(3)},
		mood{lost: 2, doubled: 10, spoilt: 2, restarts: 3, promotes: 10, late: c.IntN(3)})
	m.ends, m.leaves, m.meddles = pick(c, 0, 1, 4, 10), pick(c, 0, 0, 1), c.IntN(4) == 0
	return m
}

// message is the place of one among those in flight.
func (m mood) message(c chance, count int) int {
	few := c.IntN(min(count, 1+c.IntN(12)))
	switch {
	case m.late == 1:
		return c.IntN(count)
	case m.late == 2 && c.IntN(20) > 0:
		return -1 - few
	}
	return few
}

// step is one by chance.
func (x *witness) step(c chance, m mood) api.Step {
	_, flight := x.d.World().Flight()
	if len(flight) > 0 && c.IntN(100) < 84 {
		a := m.message(c, len(flight))
		switch k := c.IntN(100); {
		case k < m.lost:
			return drops(a)
		case k < m.lost+m.doubled:
			return doubles(a)
		case k < m.lost+m.doubled+m.spoilt:
			return spoils(a, c.IntN(1000)-500, 1+c.IntN(255))
		case k < m.lost+m.doubled+m.spoilt+m.within:
			return withins(a, pick(c, c.IntN(400), c.IntN(8), -1-c.IntN(3)))
		}
		return delivers(a)
	}
	some := 1 + c.IntN(x.rules.Nodes)
	switch k := c.IntN(100); {
	case k < m.crashes:
		return crashes(some)
	case k < m.crashes+m.restarts:
		return restarts(some)
	case k < m.crashes+m.restarts+m.promotes:
		return promotes(pick(c, x.members()...), c.IntN(x.rules.Nodes+1))
	case k < 36:
		return ticks(some)
	case k < 42:
		return ticks(101 + c.IntN(x.rules.Clients))
	case k < 44:
		return saves(some)
	case k < 46:
		return calms(1 + c.IntN(2))
	}
	return x.wish(c, m, 1+c.IntN(x.rules.Clients))
}

// members are those of the present view.
func (x *witness) members() []int {
	views := x.d.World().Views()
	now := views[len(views)-1]
	if now.Backup == 0 {
		return []int{now.Primary}
	}
	return []int{now.Primary, now.Backup}
}

// wish is what a script wants of a client.
func (x *witness) wish(c chance, m mood, k int) api.Step {
	g := x.guests[k]
	n := c.IntN(100)
	switch {
	case n < m.ends:
		return finishes(k)
	case n < m.ends+m.leaves:
		return leaves(k)
	case g.session == 0 || n > 98:
		return begins(k)
	case m.meddles && n > 85:
		return pick(c, unwatches(k, 1+c.IntN(5)), watches(k, base, 1+c.IntN(3)), watches(k, base+"/lock-00000", api.WatchNode))
	case n > 80:
		return does(k, x.ownOps(c)...)
	case n > 77 && len(g.own) < 2:
		return watches(k, pick(c, "/", "/x", "/x/y", "/a"), pick(c, 1, 2, 3))
	case n > 75 && len(g.own) > 0:
		return unwatches(k, pick(c, g.own...))
	}
	return ticks(100 + k)
}

// ownOps are a script's own, which keep away from all bases.
func (x *witness) ownOps(c chance) []api.Op {
	if slices.ContainsFunc(x.jobs, func(job api.Job) bool { return job.Base == "/" }) {
		return nil
	}
	var ops []api.Op
	for range pick(c, 1, 1, 2) {
		at := pick(c, "/x", "/x/y", "/a", "/a")
		ops = append(ops, pick(c, makes(at, "", 0), makes(at, "", 0), makes("/x/n", "", api.FlagBrief|api.FlagCounted), sets(at, "z"), dropsAt(at), gets(at), lists(at)))
	}
	return ops
}

// calms lets everybody run, gives each client a session, and plays rounds until nothing is told any more.
func (x *witness) calms() {
	x.t.Helper()
	for _, i := range x.members() {
		if sight, _ := x.d.World().Sight(i); !sight.Up {
			x.play(restarts(i))
		}
	}
	for k := 1; k <= x.rules.Clients; k++ {
		if x.guests[k].session == 0 {
			x.play(begins(k))
		}
	}
	x.play(calms(24))
	for quiet, rounds := 0, 0; quiet < 3; rounds++ {
		before := len(x.told)
		x.play(calms(1))
		if quiet++; len(x.told) > before {
			quiet = 0
		}
		if rounds > 300 {
			x.t.Fatal("it never gets calm")
		}
		for k := 1; k <= x.rules.Clients; k++ { // a lease may have ended
			if x.guests[k].session == 0 {
				x.play(begins(k))
			}
		}
	}
}

// rests holds how the jobs stand when nothing is left to do: who has the lowest node is in, and nobody waits for what is there.
func (x *witness) rests() {
	x.t.Helper()
	now := x.rivals[x.machine.Last()]
	for i, h := range x.d.Sights() {
		job := x.jobOf(i + 1)
		all := now[familyOf(job)]
		switch {
		case h.Phase == api.HeldOut || h.Phase == api.HeldDone:
		case h.Phase == api.HeldAsking:
			x.t.Errorf("the client %d, whose job is %+v, has nothing to wait for and is %+v", i+1, job, h)
		case job.Kind == api.JobLock || job.Kind == api.JobElect:
			if isFirst := all[0] == h.Place; isFirst != (h.Phase == api.HeldIn) || !slices.Contains(all, h.Place) {
				x.t.Errorf("P20.14: the client %d is %+v, and there are %v", i+1, h, all)
			}
			if leader := x.nodes[all[0]].data; job.Kind == api.JobElect && !same(h.Values, []string{leader}) {
				x.t.Errorf("P20.7: the leader's data is %q, not %q", leader, h.Values)
			}
		case job.Kind == api.JobBarrier && h.Phase != api.HeldIn && len(all) >= job.Size:
			x.t.Errorf("P20.8: the client %d is %+v, and there are %v", i+1, h, all)
		case job.Kind == api.JobTake && len(all) > 0:
			x.t.Errorf("P20.11: the client %d is %+v, and there are %v", i+1, h, all)
		}
		x.seen["rests "+strconv.Itoa(job.Kind)+" "+strconv.Itoa(h.Phase)]++
	}
}

// leaveInTurn: those who are in leave, one behind the other, and then all others.
func (x *witness) leaveInTurn() {
	x.t.Helper()
	for !x.t.Failed() {
		k := 1 + slices.IndexFunc(x.d.Sights(), func(h api.Held) bool { return h.Phase == api.HeldIn })
		if k == 0 {
			break
		}
		x.play(leaves(k))
		x.calms()
		x.rests()
	}
	for k := range x.jobs {
		x.play(leaves(k + 1))
	}
	x.calms()
	for i, h := range x.d.Sights() {
		if job := x.jobOf(i + 1); h.Phase != api.HeldDone && job != (api.Job{}) {
			x.t.Errorf("all have left, and the client %d is %+v", i+1, h)
		} else if all := x.rivals[x.machine.Last()][familyOf(job)]; isBrief(job.Kind) && len(all) > 0 {
			x.t.Errorf("all have left, and there are %v", all)
		}
	}
}

// playedWith plays a drill by chance.
func playedWith(t *testing.T, seed, kind uint64, steps int, seen map[string]int, kinds ...int) {
	t.Helper()
	c := chanceOf(seed, kind)
	rules := c.rules()
	rules.Clients = 2 + c.IntN(5)
	x, m := witnessOf(t, rules, seen, c.jobsOf(rules.Clients, kinds...)...), c.mood()
	for range steps {
		if x.play(x.step(c, m)); t.Failed() {
			t.Fatalf("seed %d, %+v, %+v", seed, rules, x.jobs)
		}
	}
	if !m.meddles && rules.Ring >= 8 {
		x.calms()
		x.rests()
		x.leaveInTurn()
	}
	if x.audits(); t.Failed() {
		t.Fatalf("seed %d, %+v, %+v", seed, rules, x.jobs)
	}
}

// jobsOf are jobs for so many clients, mostly of one base.
func (c chance) jobsOf(clients int, kinds ...int) []api.Job {
	main := pick(c, base, base, base, base, "/a/b", "/")
	var jobs []api.Job
	for i := range clients {
		job := jobOf(pick(c, kinds...))
		if job.Size > 0 {
			job.Size = 1 + c.IntN(3)
		}
		if job.Data != "" {
			job.Data = "of " + strconv.Itoa(i+1)
		}
		if job.Base = main; main != "/" && c.IntN(10) == 0 {
			job.Base = "/c"
		}
		if c.IntN(12) == 0 {
			job = api.Job{}
		}
		jobs = append(jobs, job)
	}
	return jobs
}

func isMore(t *testing.T, seen map[string]int, least int, what ...string) {
	t.Helper()
	for _, name := range what {
		if seen[name] < least {
			t.Errorf("%q comes only %d times", name, seen[name])
		}
	}
}

// played plays drills by chance with jobs of such kinds.
func played(t *testing.T, kind, count uint64, kinds ...int) map[string]int {
	t.Helper()
	seen := map[string]int{}
	for seed := range count {
		playedWith(t, seed, kind, 400, seen, kinds...)
	}
	isMore(t, seen, 10, "markers", "told 9", "step 6 0", "step 7 0", "step 8 0", "step 9 0", "step 15 0", "step 17 0")
	return seen
}

// TestLocksPlayed: P21.7 and P0.11.
func TestLocksPlayed(t *testing.T) {
	t.Parallel()
	isMore(t, played(t, 221, 60, api.JobLock), 40, "in lock-")
}

// TestElectionsPlayed: P21.7 and P0.11.
func TestElectionsPlayed(t *testing.T) {
	t.Parallel()
	isMore(t, played(t, 222, 60, api.JobElect), 40, "in vote-")
}

// TestBarriersPlayed: P0.11, who is in at a barrier is so where Size nodes were there.
func TestBarriersPlayed(t *testing.T) {
	t.Parallel()
	isMore(t, played(t, 223, 60, api.JobBarrier), 40, "in wait-")
}

// TestCountersPlayed: P0.11.
func TestCountersPlayed(t *testing.T) {
	t.Parallel()
	isMore(t, played(t, 224, 60, api.JobCounter), 100, "sets")
}

// TestQueuesPlayed: P0.11.
func TestQueuesPlayed(t *testing.T) {
	t.Parallel()
	isMore(t, played(t, 225, 60, api.JobPut, api.JobTake), 60, "items put", "items taken")
}

// TestAllPlayed: P21.7 and P0.11, jobs of all kinds beside one another.
func TestAllPlayed(t *testing.T) {
	t.Parallel()
	kinds := append(allKinds(), api.JobPut, api.JobTake, api.JobBarrier)
	isMore(t, played(t, 226, 120, kinds...), 10, "in lock-", "in vote-", "in wait-", "items put", "items taken")
}
