package recipe_test

import (
	"math"
	"strings"
	"testing"

	"herald/api"
	"herald/recipe"
)

// sizesOf are the least and the greatest Size of a kind's jobs.
func sizesOf(kind int) (int, int) {
	switch kind {
	case api.JobLock, api.JobElect:
		return 0, 0
	case api.JobBarrier:
		return 1, 64
	}
	return 1, 8
}

func hasData(kind int) bool { return kind != api.JobCounter && kind != api.JobTake }

// isNew holds what New says of a job.
func isNew(t *testing.T, job api.Job, want api.Errno) {
	t.Helper()
	m, code := recipe.New(job)
	if code != want || (m == nil) != (code != api.OK) {
		t.Errorf("P20.1: New(%+v) says %d, %t; want %d", job, code, m != nil, want)
	}
	if code == api.OK && !same(m.Sight(), api.Held{}) {
		t.Errorf("P20.1: the machine of %+v is new, and shows %+v", job, m.Sight())
	}
}

// TestKinds: P20.1, there are six kinds.
func TestKinds(t *testing.T) {
	for _, kind := range []int{math.MinInt, -1 << 32, -1, 0, 7, 8, 127, 128, 255, 256, 257, 1 << 32, 1<<32 + 1, math.MaxInt} {
		for size := range 3 {
			isNew(t, api.Job{Kind: kind, Base: "/l", Size: size}, api.ErrJob)
		}
	}
	for _, kind := range allKinds() {
		isNew(t, jobOf(kind), api.OK)
	}
	isNew(t, api.Job{}, api.ErrJob)
}

// TestSizes: P20.1, Size at and beyond the table's edges.
func TestSizes(t *testing.T) {
	for _, kind := range allKinds() {
		least, most := sizesOf(kind)
		for _, size := range []int{math.MinInt, -1 << 32, -64, -8, -2, -1, 0, 1, 2, 7, 8, 9, 16, 63, 64, 65, 128, 1 << 32, 1<<32 + 1, math.MaxInt} {
			job, want := jobOf(kind), api.OK
			job.Size = size
			if size < least || size > most {
				want = api.ErrJob
			}
			isNew(t, job, want)
		}
	}
}

// TestData: P20.1, Data of each length up to MaxData and above, of any bytes; of counters and takers none.
func TestData(t *testing.T) {
	for _, kind := range allKinds() {
		for _, size := range []int{0, 1, 2, 63, 64, 65, 66, 128, 1000, 1 << 20} {
			job, want := jobOf(kind), api.OK
			job.Data = strings.Repeat("d", size)
			switch {
			case size > 64:
				want = api.ErrLong
			case size > 0 && !hasData(kind):
				want = api.ErrJob
			}
			isNew(t, job, want)
		}
		if hasData(kind) {
			job := jobOf(kind)
			job.Data = "\x00\xff\n\"/ é"
			isNew(t, job, api.OK)
		}
	}
}

// deep is a place of so many names.
func deep(names int) string { return strings.Repeat("/a", names) }

// TestBases: P20.1, Base that is no place, the root, and such as leave no room for a node below; a counter has none there.
func TestBases(t *testing.T) {
	name := "/" + strings.Repeat("n", 16)
	for _, kind := range allKinds() {
		for _, base := range []string{"/", "/l", "/a/b", deep(5), strings.Repeat(name, 5), "/lock-00000", "/..a"} {
			isNew(t, api.Job{Kind: kind, Base: base, Size: jobOf(kind).Size}, api.OK)
		}
		want := api.ErrPlace
		if kind == api.JobCounter {
			want = api.OK
		}
		for _, base := range []string{deep(6), strings.Repeat(name, 6)} {
			isNew(t, api.Job{Kind: kind, Base: base, Size: jobOf(kind).Size}, want)
		}
		for _, base := range []string{"", "l", "//", "/l/", "/.", "/..", "/a//b", "/a b", "/\x00", "/é", name + "n", deep(7), strings.Repeat(name, 7), strings.Repeat("/", 103), strings.Repeat("x", 1<<20)} {
			isNew(t, api.Job{Kind: kind, Base: base, Size: jobOf(kind).Size}, api.ErrPlace)
		}
	}
}

// TestFirstError: P20.1, Data that is too long comes first, then what the table says, then the place.
func TestFirstError(t *testing.T) {
	long := strings.Repeat("d", 65)
	for _, kind := range append(allKinds(), 0, 7, -1) {
		isNew(t, api.Job{Kind: kind, Base: "l", Data: long, Size: -1}, api.ErrLong)
		isNew(t, api.Job{Kind: kind, Base: "l", Data: long, Size: jobOf(kind).Size}, api.ErrLong)
		isNew(t, api.Job{Kind: kind, Base: "/l", Data: long, Size: 1000}, api.ErrLong)
		isNew(t, api.Job{Kind: kind, Base: "l", Size: -1}, api.ErrJob)
		isNew(t, api.Job{Kind: kind, Base: deep(6), Size: 65}, api.ErrJob)
	}
	isNew(t, api.Job{Kind: api.JobCounter, Base: "l", Data: "x", Size: 1}, api.ErrJob)
	isNew(t, api.Job{Kind: api.JobTake, Base: deep(6), Data: "x", Size: 1}, api.ErrJob)
}

// TestNoMachine: P20.12, a nil and a zero Machine answer nothing to whatever they hear.
func TestNoMachine(t *testing.T) {
	var none *recipe.Machine
	for _, m := range []*recipe.Machine{none, {}} {
		for kind := -1; kind < 12; kind++ {
			if l := m.Hear(api.Told{Kind: kind, Request: 1, Watch: api.Watch{Id: 1}, Item: event(1, makesNode("/a", "", 1))}); len(l) != 0 {
				t.Errorf("P20.12: Hear of a machine of nothing: %s", tellWishes(l))
			}
			if l := append(m.Begin(), m.Leave()...); len(l) != 0 {
				t.Errorf("P20.12: Begin and Leave of a machine of nothing: %s", tellWishes(l))
			}
			if !same(m.Sight(), api.Held{}) {
				t.Errorf("P20.12: Sight of a machine of nothing: %+v", m.Sight())
			}
		}
	}
}

// TestExamples: the chapter's examples, to the letter.
func TestExamples(t *testing.T) {
	isNew(t, api.Job{}, api.ErrJob)
	isNew(t, api.Job{Kind: api.JobCounter, Base: "/c", Data: "x", Size: 1}, api.ErrJob)
	isNew(t, api.Job{Kind: api.JobLock, Base: "l"}, api.ErrPlace)
	l := born(t, api.Job{Kind: api.JobLock, Base: "/l", Data: "x"})
	l.begins(does(makes("/l", "", 0)))
	l.shows(api.HeldAsking, "", 0, api.OK)
	l.begins()
	l.hears(answered(1, results(1, api.Result{Place: "/l"})))
	l.shows(api.HeldAsking, "", 0, api.OK)
	l.hears(called(1, makes("/l", "", 0)))
	own := makes("/l/lock-", "x", api.FlagBrief|api.FlagCounted)
	l.hears(answered(1, refusal(2, api.ErrExists)), does(own))
	l.shows(api.HeldAsking, "", 0, api.OK)
	l.hears(called(2, own))
	l.hears(answered(2, made(5, "/l/lock-00003")), does(lists("/l")))
	l.shows(api.HeldWaiting, "/l/lock-00003", 0, api.OK)
	l.hears(called(3, lists("/l")))
	l.hears(answered(3, kids(6, "lock-00001", "lock-00003", "other")), watches("/l/lock-00001", api.WatchNode))
	l.shows(api.HeldWaiting, "/l/lock-00003", 0, api.OK)
	l.hears(watched(1, "/l/lock-00001", api.WatchNode))
	l.hears(granted(1, shotOf(6, "/l/lock-00001", api.WatchNode, seen("/l/lock-00001", "")...)))
	l.shows(api.HeldWaiting, "/l/lock-00003", 0, api.OK)
	l.hears(taken(event(8, setsNode("/l/lock-00001", "", 1, 1))))
	l.shows(api.HeldWaiting, "/l/lock-00003", 0, api.OK)
	l.hears(taken(event(9, dropsNode("/l/lock-00001", 1))), unwatches(1), does(lists("/l")))
	l.shows(api.HeldWaiting, "/l/lock-00003", 0, api.OK)
	l.hears(called(4, lists("/l")))
	l.hears(answered(4, kids(10, "lock-00003")))
	l.shows(api.HeldIn, "/l/lock-00003", 10, api.OK)
	l.leaves(does(drops("/l/lock-00003")))
	l.shows(api.HeldAsking, "/l/lock-00003", 10, api.OK)
	l.hears(called(5, drops("/l/lock-00003")))
	l.hears(answered(5, results(12, api.Result{Place: "/l/lock-00003"})))
	l.shows(api.HeldDone, "", 12, api.OK)
}
