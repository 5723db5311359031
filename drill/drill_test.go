package drill_test

import (
	"slices"
	"strings"
	"testing"

	"herald/api"
	"herald/drill"
	"herald/recipe"
	"herald/world"
)

// refusesNew holds that New refuses.
func refusesNew(t *testing.T, want api.Errno, rules api.Rules, jobs ...api.Job) {
	t.Helper()
	if d, code := drill.New(rules, jobs...); code != want || d != nil {
		t.Errorf("P21.1: New(%+v, %+v) says %d, want %d", rules, jobs, code, want)
	}
}

// TestNewRules: P21.1, rules that a world refuses are refused ahead of all else.
func TestNewRules(t *testing.T) {
	fields := []func(r *api.Rules) *int{
		func(r *api.Rules) *int { return &r.Nodes }, func(r *api.Rules) *int { return &r.Clients }, func(r *api.Rules) *int { return &r.Queue },
		func(r *api.Rules) *int { return &r.Ring }, func(r *api.Rules) *int { return &r.Window }, func(r *api.Rules) *int { return &r.Lease },
	}
	wrong := api.Job{Kind: 99}
	for _, field := range fields {
		for _, number := range append(ends(), 5, 6, 7, 8, 9, 32, 33, 64, 65, 1000, 1001) {
			rules := rulesOf(2, 2)
			*field(&rules) = number
			if _, want := world.New(rules); want != api.OK {
				refusesNew(t, want, rules)
				refusesNew(t, want, rules, wrong)
				refusesNew(t, want, rules, slices.Repeat([]api.Job{wrong}, 7)...)
				refusesNew(t, want, rules, api.Job{Kind: api.JobLock, Base: base, Data: strings.Repeat("x", 65)})
				continue
			}
			begun(t, rules)
		}
	}
	refusesNew(t, api.ErrArg, api.Rules{})
}

// TestNewCounts: P21.1, no job, fewer than clients, as many and more; what stands in a new drill.
func TestNewCounts(t *testing.T) {
	for clients := 1; clients <= api.MaxClients; clients++ {
		for count := range 10 {
			var jobs []api.Job
			for i := range count {
				jobs = append(jobs, jobOf(allKinds()[i%6]))
			}
			if count > clients {
				refusesNew(t, api.ErrDrill, rulesOf(1, clients), jobs...)
				refusesNew(t, api.ErrDrill, rulesOf(1, clients), make([]api.Job, count)...)
				refusesNew(t, api.ErrDrill, rulesOf(1, clients), slices.Repeat([]api.Job{{Kind: 99}}, count)...)
				continue
			}
			d := begun(t, rulesOf(1, clients), jobs...)
			is(t, "P21.4: Sights of a new drill", d.Sights(), make([]api.Held, clients))
			w, _ := world.New(rulesOf(1, clients))
			is(t, "P21.1: the world of a new drill", sightOf(d.World()), sightOf(w))
			for k := 1; k <= clients; k++ {
				want := api.OK
				if k > count {
					want = api.ErrDrill
				}
				if told, code := d.Step(leaves(k)); code != want || len(told) > 0 {
					t.Errorf("P21.1: of %d jobs and %d clients, StepLeave %d = %d, %s", count, clients, k, code, tell(told))
				}
			}
		}
	}
}

// TestNewZero: P21.1, a job that is wholly zero is none, wherever it stands; one that is zero but for a field is refused as a recipe refuses it.
func TestNewZero(t *testing.T) {
	lock := jobOf(api.JobLock)
	for which := range 1 << 3 {
		jobs := make([]api.Job, 3)
		for i := range jobs {
			if which>>i&1 == 1 {
				jobs[i] = lock
			}
		}
		d := begun(t, rulesOf(1, 4), jobs...)
		is(t, "P21.4: Sights", d.Sights(), make([]api.Held, 4))
		for k, job := range append(jobs, api.Job{}) {
			_, code := d.Step(leaves(k + 1))
			if (code == api.OK) != (job == lock) || code != api.OK && code != api.ErrDrill {
				t.Errorf("P21.1: of the jobs %+v, StepLeave %d says %d", jobs, k+1, code)
			}
		}
	}
	for _, job := range []api.Job{{Kind: 1}, {Kind: -1}, {Base: base}, {Data: "x"}, {Size: 1}, {Size: -1}, {Data: strings.Repeat("x", 65)}} {
		_, want := recipe.New(job)
		if want == api.OK {
			t.Fatalf("P20.1: there is a job %+v", job)
		}
		refusesNew(t, want, rulesOf(1, 2), job)
		refusesNew(t, want, rulesOf(1, 2), api.Job{}, job)
	}
}

// TestNewJobs: P21.1, jobs of every kind, with all that a recipe asks of them: taken and refused as a recipe does.
func TestNewJobs(t *testing.T) {
	taken, refused := 0, map[api.Errno]int{}
	for kind := -1; kind <= 8; kind++ {
		for _, at := range []string{"", "/", "l", "/l", "/a/b/c/d/e", "/a/b/c/d/e/f", "/l/", strings.Repeat("/a", 60)} {
			for _, data := range []string{"", "x", strings.Repeat("x", 64), strings.Repeat("x", 65)} {
				for _, size := range []int{-1, 0, 1, 8, 9, 64, 65, most} {
					job := api.Job{Kind: kind, Base: at, Data: data, Size: size}
					_, want := recipe.New(job)
					if job == (api.Job{}) {
						continue
					}
					if want != api.OK {
						refused[want]++
						refusesNew(t, want, rulesOf(1, 3), jobOf(api.JobTake), job)
						continue
					}
					taken++
					begun(t, rulesOf(1, 3), jobOf(api.JobTake), job)
				}
			}
		}
	}
	if taken < 80 || refused[api.ErrLong] < 100 || refused[api.ErrJob] < 100 || refused[api.ErrPlace] < 100 {
		t.Errorf("%d jobs were taken, and refused %v", taken, refused)
	}
}

// TestNewFirst: P21.1, of several jobs that a recipe refuses the first one tells why, whatever stands behind it.
func TestNewFirst(t *testing.T) {
	lock, long := jobOf(api.JobLock), jobOf(api.JobLock)
	long.Data = strings.Repeat("x", 65)
	wrong := map[api.Errno]api.Job{api.ErrJob: {Kind: 99}, api.ErrPlace: {Kind: api.JobLock, Base: "l"}, api.ErrLong: long}
	for first, one := range wrong {
		refusesNew(t, first, rulesOf(2, 3), one)
		refusesNew(t, first, rulesOf(2, 3), lock, api.Job{}, one)
		for _, other := range wrong {
			refusesNew(t, first, rulesOf(2, 3), one, other)
			refusesNew(t, first, rulesOf(2, 3), lock, one, other)
			refusesNew(t, first, rulesOf(2, 3), api.Job{}, one, other)
			refusesNew(t, first, rulesOf(2, 3), one, lock, other)
			refusesNew(t, api.ErrDrill, rulesOf(2, 3), one, lock, other, lock)
			refusesNew(t, api.ErrDrill, rulesOf(2, 1), one, other)
			refusesNew(t, api.ErrArg, rulesOf(6, 3), one, other)
		}
	}
}

// TestNothing: P21.5, a nil and a zero drill.
func TestNothing(t *testing.T) {
	var none *drill.Drill
	for _, d := range []*drill.Drill{none, {}, new(drill.Drill)} {
		for kind := -1; kind <= 19; kind++ {
			for _, a := range ends() {
				if told, code := d.Step(stepOf(kind, a, a, a)); code != api.ErrDrill || len(told) > 0 {
					t.Errorf("P21.5: the step %d of %d = %d, %s", kind, a, code, tell(told))
				}
			}
		}
		for _, s := range []api.Step{does(1, makes("/a", "", 0)), watches(1, "/", 1), does(1, make([]api.Op, 5)...)} {
			if told, code := d.Step(s); code != api.ErrDrill || len(told) > 0 {
				t.Errorf("P21.5: the step %+v = %d, %s", s, code, tell(told))
			}
		}
		if sights, w := d.Sights(), d.World(); len(sights) > 0 || w != nil {
			t.Errorf("P21.5: Sights is %+v, World %v", sights, w)
		}
	}
}

// TestSights: P21.4, each client's sight at its place, a zero one of those without a recipe; and the world is the one that is played.
func TestSights(t *testing.T) {
	d := begun(t, rulesOf(2, 5), jobOf(api.JobTake), api.Job{}, jobOf(api.JobPut), jobOf(api.JobBarrier))
	w := d.World()
	plays(t, d, begins(1), begins(2), begins(3), begins(4), begins(5), calms(6))
	stands(t, d, "asking", "out", "asking", "asking", "out")
	for range 8 {
		plays(t, d, calms(3))
	}
	stands(t, d, "done /l/item-00002 at 16 it it", "out", "done /l/item-00002 at 12 it it", "waiting /l/wait-00001", "out")
	plays(t, d, leaves(4))
	for k, h := range d.Sights() {
		if isZero := same(h, api.Held{}); isZero != (k == 1 || k == 4) {
			t.Errorf("P21.4: the client %d is %+v", k+1, h)
		}
	}
	if d.World() != w || len(w.History()) < 10 {
		t.Errorf("P21.4: World is not the one that was played, but has %s", tell(w.History()))
	}
}

// TestExamples: the chapter's table of examples, row by row.
func TestExamples(t *testing.T) {
	lock := api.Job{Kind: api.JobLock, Base: "/l"}
	rules := api.Rules{Nodes: 2, Clients: 2, Queue: 4, Ring: 16, Window: 2}
	refusesNew(t, api.ErrArg, api.Rules{})
	refusesNew(t, api.ErrDrill, rulesOf(2, 1), lock, lock)
	refusesNew(t, api.ErrJob, rules, api.Job{Kind: 99})
	d := begun(t, rulesOf(2, 1), api.Job{})
	is(t, "Sights of a drill whose job is none", d.Sights(), []api.Held{{}})
	tells(t, d, leaves(1), api.ErrDrill)

	d = begun(t, rules, lock, lock)
	plays(t, d, begins(1), begins(2))
	for range 8 {
		plays(t, d, calms(3))
	}
	sights := d.Sights()
	if a, b := sights[0], sights[1]; a.Phase != api.HeldIn || a.Place != "/l/lock-00000" || b.Phase != api.HeldWaiting || b.Place != "/l/lock-00001" {
		t.Errorf("two locks are %+v", sights)
	}
	plays(t, d, leaves(1))
	for range 4 {
		plays(t, d, calms(3))
	}
	sights = d.Sights()
	if a, b := sights[0], sights[1]; a.Phase != api.HeldDone || a.Place != "" || b.Phase != api.HeldIn || b.Place != "/l/lock-00001" {
		t.Errorf("when the first has left, two locks are %+v", sights)
	}
}
