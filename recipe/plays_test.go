package recipe_test

import (
	"math"
	"slices"
	"strconv"
	"testing"

	"herald/api"
	"herald/place"
)

// act is something that may happen to a client, and how often it is tried.
type act struct {
	weight int
	does   func(p *client) bool
}

// acts: what leads on, each more or less often in each scene, so that some things come late.
func (s *scene) acts() []act {
	often := func() int { return pick(s.c, 1, 4, 16) }
	return []act{
		{often(), s.takesWish}, {often(), s.plays}, {often(), s.replies}, {often(), s.looks}, {often(), s.grants}, {often(), s.brings}, {often(), s.leavesWatch},
		{2, s.isTold}, {2, s.beginsSession}, {2, s.beginsAgain}, {2, s.retires}, {1, s.comesBack},
	}
}

// troubles end something.
func (s *scene) troubles() []act {
	return []act{{2, s.ends}, {2, s.expires}, {1 + s.c.IntN(3), s.isLeft}}
}

// does tries acts by chance, until one has something to do.
func (s *scene) does(all []act) {
	sum := 0
	for _, a := range all {
		sum += a.weight
	}
	for range 40 {
		n := s.c.IntN(sum)
		for _, a := range all {
			if n -= a.weight; n < 0 {
				if a.does(pick(s.c, s.clients...)) {
					return
				}
				break
			}
		}
	}
}

// goesOn plays so many acts by chance, and now and then something that makes trouble.
func (s *scene) goesOn(count int) {
	s.t.Helper()
	acts, troubles := s.acts(), s.troubles()
	for range count {
		switch n := s.c.IntN(s.trouble); {
		case n == 0:
			s.does(troubles)
		case n < 3:
			s.closes()
		case n < 4:
			s.writesElsewhere()
		default:
			s.does(acts)
		}
		s.holds()
		if s.t.Failed() {
			return
		}
	}
}

// calms: all that is under way arrives, and all wishes are done, until nothing is left to do.
func (s *scene) calms() {
	s.t.Helper()
	s.trouble = math.MaxInt
	for s.closes() {
	}
	for range 3000 {
		isCalm := true
		for _, p := range s.clients {
			for _, does := range []func(p *client) bool{s.isTold, s.takesWish, s.plays, s.replies, s.looks, s.grants, s.brings, s.leavesWatch} {
				if does(p) {
					isCalm = false
					s.holds()
				}
			}
		}
		if isCalm || s.t.Failed() {
			return
		}
	}
	s.t.Fatal("it never gets calm")
}

// rests holds how the machines stand when nothing is left to do: P20.14, who has the first node is in; nobody waits for what is there.
func (s *scene) rests() {
	s.t.Helper()
	names := s.past[len(s.past)-1]
	for _, p := range s.clients {
		held, all := p.g.held, rivals(p.job.Kind, names)
		own, _ := place.Name(held.Place)
		isOver := held.Phase == api.HeldOut || held.Phase == api.HeldDone
		switch kind := p.job.Kind; {
		case isOver || p.session == 0:
			if !isOver {
				s.t.Errorf("a machine without a session is %+v", held)
			}
		case p.g.left || held.Phase == api.HeldAsking:
			s.t.Errorf("a machine that has nothing to wait for is %+v", held)
		case kind == api.JobLock || kind == api.JobElect:
			if isFirst := all[0] == own; isFirst != (held.Phase == api.HeldIn) || !slices.Contains(all, own) {
				s.t.Errorf("P20.14: the machine is %+v, and %q are there", held, all)
			}
			if shot, _ := s.tree.Part(s.at(all[0]), api.WatchNode); kind == api.JobElect && !same(held.Values, []string{shot.Nodes[0].Data}) {
				s.t.Errorf("P20.7: the leader's data is %q, not %q", shot.Nodes[0].Data, held.Values)
			}
		case kind == api.JobBarrier && held.Phase != api.HeldIn && len(all) >= p.job.Size:
			s.t.Errorf("P20.8: the machine is %+v, and %q are there", held, all)
		case kind == api.JobCounter || kind == api.JobPut || kind == api.JobTake && (len(all) > 0 || held.Phase != api.HeldWaiting):
			s.t.Errorf("a machine that has something to do is %+v", held)
		}
	}
}

func (s *scene) at(name string) string {
	at, _ := place.Join(s.base, name)
	return at
}

// leaveInTurn: who is in leaves, one behind the other; then all others do.
func (s *scene) leaveInTurn() {
	s.t.Helper()
	for {
		i := slices.IndexFunc(s.clients, func(p *client) bool { return p.g.held.Phase == api.HeldIn && !p.g.left })
		if i < 0 {
			break
		}
		s.isLeft(s.clients[i])
		s.calms()
		s.rests()
		if s.t.Failed() {
			return
		}
	}
	for _, p := range s.clients {
		s.isLeft(p)
	}
	s.calms()
	for _, name := range s.past[len(s.past)-1] {
		if len(rivals(api.JobPut, []string{name})) == 0 {
			s.t.Errorf("all have left, and %s is there", s.at(name))
		}
	}
	for _, p := range s.clients {
		if p.g.held.Phase != api.HeldDone {
			s.t.Errorf("all have left, and one is %+v", p.g.held)
		}
	}
}

// jobsOf are jobs by chance, of one base.
func jobsOf(c chance, base string, kinds ...int) []api.Job {
	var jobs []api.Job
	for i := range 2 + c.IntN(5) {
		job := jobOf(pick(c, kinds...))
		job.Base = base
		if job.Size > 0 {
			job.Size = 1 + c.IntN(4)
		}
		if hasData(job.Kind) {
			job.Data = "of " + strconv.Itoa(i)
		}
		jobs = append(jobs, job)
	}
	return jobs
}

// plays are scenes by chance with jobs of such kinds.
func plays(t *testing.T, kind, count uint64, tally map[string]int, kinds ...int) {
	t.Helper()
	for seed := range count {
		c := chanceOf(seed, kind)
		base := pick(c, "/l", "/l", "/l", "/a/b")
		s := sceneOf(t, c, base, tally, jobsOf(c, base, kinds...)...)
		s.goesOn(100 + c.IntN(700))
		if !t.Failed() {
			s.calms()
			s.rests()
		}
		if !t.Failed() {
			s.leaveInTurn()
		}
		if t.Failed() {
			t.Fatalf("the scene %d of %d", seed, kind)
		}
		s.counts()
	}
}

// counts takes up what a scene had.
func (s *scene) counts() {
	for _, x := range s.items {
		switch {
		case !x.gone:
			s.tally["items left"]++
		case x.goneBy.isHeard:
			s.tally["items taken"]++
		default:
			s.tally["items answered to nobody"]++
		}
	}
	s.tally["sets"] += s.sets
	s.tally["values"] += len(s.values(api.JobCounter))
}

func isMore(t *testing.T, tally map[string]int, least int, what ...string) {
	t.Helper()
	for _, name := range what {
		if tally[name] < least {
			t.Errorf("%q comes only %d times", name, tally[name])
		}
	}
}

// TestLocksPlayed: P20.13 and P20.14.
func TestLocksPlayed(t *testing.T) {
	t.Parallel()
	tally := map[string]int{}
	plays(t, 31, 500, tally, api.JobLock)
	isMore(t, tally, 20, "in lock-", "late grants", "late items", "markers", "refused watches")
}

// until lets a client's machine go on, and nobody else's, until it is in such a phase with such an open request.
func (s *scene) until(p *client, phase int, open string) {
	s.t.Helper()
	for range 40 {
		if p.g.held.Phase == phase && p.g.open == open {
			return
		}
		for _, does := range []func(p *client) bool{s.takesWish, s.plays, s.replies, s.looks, s.grants, s.brings, s.leavesWatch} {
			if p.g.held.Phase == phase && p.g.open == open {
				return
			}
			does(p)
			s.holds()
		}
	}
	s.t.Fatalf("the machine does not come to the phase %d and %q, but is %+v", phase, open, p.g.held)
}

// TestToldLate: P20.14, a lock is told to be in when its node is gone and the next one is in: by their stamps they are in turn.
func TestToldLate(t *testing.T) {
	for seed := range uint64(20) {
		tally := map[string]int{}
		s := sceneOf(t, chanceOf(seed, 37), "/l", tally, jobOf(api.JobLock), jobOf(api.JobLock))
		s.trouble = math.MaxInt
		a, b := s.clients[0], s.clients[1]
		s.beginsSession(a)
		s.until(a, api.HeldWaiting, "list")
		s.takesWish(a)
		s.plays(a)
		s.beginsSession(b)
		s.until(b, api.HeldWaiting, "")
		s.expires(a)
		s.until(b, api.HeldIn, "")
		s.replies(a)
		s.holds()
		a.shows(api.HeldIn, "/l/lock-00000", 5, api.OK)
		if tally["told late to be in"] != 1 {
			t.Error("nobody was told late to be in")
		}
		s.isTold(a)
		a.shows(api.HeldOut, "", 5, api.ErrSession)
		s.beginsSession(a)
		s.calms()
		s.rests()
		s.leaveInTurn()
	}
}

// TestTakenByNobody: P20.15, an item whose dropping request is answered to nobody is in nobody's Values, and nobody else takes it; one that was not dropped is taken by another one.
func TestTakenByNobody(t *testing.T) {
	for _, isPlayed := range []bool{false, true} {
		jobs := []api.Job{jobOf(api.JobPut), jobOf(api.JobTake), jobOf(api.JobTake)}
		s := sceneOf(t, chanceOf(1, 38), "/l", map[string]int{}, jobs...)
		s.trouble = math.MaxInt
		put, a, b := s.clients[0], s.clients[1], s.clients[2]
		s.beginsSession(put)
		s.until(put, api.HeldDone, "")
		s.beginsSession(a)
		s.until(a, api.HeldAsking, "two")
		s.takesWish(a)
		if isPlayed {
			s.plays(a)
		}
		s.expires(a)
		s.isTold(a)
		s.holds()
		s.beginsSession(b)
		s.calms()
		s.rests()
		if taken := len(b.m.Sight().Values); isPlayed && taken != 1 || !isPlayed && taken != 2 {
			t.Errorf("P20.15: %d items are taken, behind one that was dropped (%t) for nobody", taken, isPlayed)
		}
	}
}

// TestWokenInVain: P20.11, a taker hears of an item ahead of the reply to a list that was made without it: nobody waits for what is there.
func TestWokenInVain(t *testing.T) {
	s := sceneOf(t, chanceOf(1, 39), "/l", map[string]int{}, jobOf(api.JobPut), jobOf(api.JobTake), jobOf(api.JobTake))
	s.trouble, s.hub = math.MaxInt, roomy()
	put, a, b := s.clients[0], s.clients[1], s.clients[2]
	s.beginsSession(a)
	s.until(a, api.HeldWaiting, "")
	s.calms()
	s.beginsSession(put)
	s.until(put, api.HeldAsking, "own")
	s.takesWish(put)
	s.plays(put)
	s.until(a, api.HeldWaiting, "list")
	s.beginsSession(b)
	s.until(b, api.HeldAsking, "two")
	s.takesWish(b)
	s.plays(b)
	s.takesWish(a)
	s.plays(a)
	s.replies(put)
	s.takesWish(put)
	s.plays(put)
	for s.brings(a) {
	}
	s.replies(a)
	a.shows(api.HeldWaiting, "", 0, api.OK)
	s.ends(b)
	s.calms()
	s.rests()
	a.shows(api.HeldWaiting, "/l/item-00001", a.g.held.Stamp, api.OK, "it")
}

// TestElectionsPlayed: P20.13.
func TestElectionsPlayed(t *testing.T) {
	t.Parallel()
	tally := map[string]int{}
	plays(t, 32, 500, tally, api.JobElect)
	isMore(t, tally, 20, "in vote-", "late grants", "late items", "markers", "refused watches")
}

// TestBarriersPlayed: P20.17.
func TestBarriersPlayed(t *testing.T) {
	t.Parallel()
	tally := map[string]int{}
	plays(t, 33, 500, tally, api.JobBarrier)
	isMore(t, tally, 20, "in wait-", "late grants", "late items", "markers", "refused watches")
}

// TestQueuesPlayed: P20.15.
func TestQueuesPlayed(t *testing.T) {
	t.Parallel()
	tally := map[string]int{}
	plays(t, 34, 500, tally, api.JobPut, api.JobTake)
	isMore(t, tally, 20, "items left", "items taken", "items answered to nobody", "late grants", "late items", "markers", "refused watches")
}

// TestCountersPlayed: P20.16.
func TestCountersPlayed(t *testing.T) {
	t.Parallel()
	tally := map[string]int{}
	plays(t, 35, 500, tally, api.JobCounter)
	isMore(t, tally, 20, "sets", "values")
	if tally["sets"] == tally["values"] {
		t.Error("no set was answered to nobody")
	}
}

// TestAllPlayed: P20.13 to P20.17, jobs of all kinds (but of counters, which want the base for themselves) at one base.
func TestAllPlayed(t *testing.T) {
	t.Parallel()
	tally := map[string]int{}
	plays(t, 36, 500, tally, api.JobLock, api.JobElect, api.JobBarrier, api.JobPut, api.JobTake)
	isMore(t, tally, 20, "in lock-", "in vote-", "in wait-", "items left", "items taken", "late grants", "late items", "markers", "refused watches")
	isMore(t, tally, 5, "items answered to nobody")
}
