package drill_test

import (
	"bytes"
	"reflect"
	"slices"
	"testing"
	"unsafe"

	"herald/api"
	"herald/drill"
)

// stretch is where something lies in memory; of a list its spare room too.
type stretch struct {
	begin, end uintptr
	owner      int
	held       unsafe.Pointer // as long as a stretch is looked at, nothing else may come to lie there
}

// memory has the stretches of all lists and texts of a value, in the room behind lists too.
func memory(v any) []stretch {
	var all []stretch
	add := func(at unsafe.Pointer, size int) {
		if size > 0 {
			all = append(all, stretch{begin: uintptr(at), end: uintptr(at) + uintptr(size), held: at})
		}
	}
	each(reflect.ValueOf(v), func(v reflect.Value) {
		switch v.Kind() {
		case reflect.String:
			if v.Len() == 1 {
				break // Go itself has one text for each byte
			}
			add(unsafe.Pointer(unsafe.StringData(v.String())), v.Len())
		case reflect.Slice:
			add(v.UnsafePointer(), v.Cap()*int(v.Type().Elem().Size()))
		}
	})
	return all
}

// each goes through a value and all that it leads to, what is inside of it first.
func each(v reflect.Value, visit func(reflect.Value)) {
	switch v.Kind() {
	case reflect.Struct:
		for i := range v.NumField() {
			each(v.Field(i), visit)
		}
	case reflect.Slice:
		whole := v.Slice(0, v.Cap())
		for i := range whole.Len() {
			each(whole.Index(i), visit)
		}
	}
	visit(v)
}

// shared tells whether two stretches of different owners have a byte in common.
func shared(all []stretch) bool {
	slices.SortFunc(all, func(a, b stretch) int { return int(a.begin) - int(b.begin) })
	end, owner := uintptr(0), -1
	for _, s := range all {
		if s.begin < end && s.owner != owner {
			return true
		}
		if s.end > end {
			end, owner = s.end, s.owner
		}
	}
	return false
}

// loan is memory that is handed in: texts whose bytes can be written over, lists with room behind their end in which something stands; and how all that was.
type loan struct {
	bytes, were    [][]byte
	ops, opsWere   []api.Op
	jobs, jobsWere []api.Job
}

func (l *loan) text(s string) string {
	if s == "" {
		return ""
	}
	b := append([]byte(s), "what stands behind the end"...)
	l.bytes, l.were = append(l.bytes, b), append(l.were, slices.Clone(b))
	return unsafe.String(unsafe.SliceData(b), len(s))
}

// lent is the step with all that it hands in lent to it.
func (l *loan) lent(s api.Step) api.Step {
	for _, o := range s.Ops {
		o.Place, o.Data = l.text(o.Place), l.text(o.Data)
		l.ops = append(l.ops, o)
	}
	l.ops = append(l.ops, api.Op{Kind: 7, Version: 7, Flags: 7})
	l.ops = l.ops[:cap(l.ops)]
	l.opsWere = slices.Clone(l.ops)
	s.Place, s.Ops = l.text(s.Place), l.ops[:len(s.Ops)]
	return s
}

// lentJobs are the jobs likewise.
func (l *loan) lentJobs(jobs []api.Job) []api.Job {
	for _, job := range jobs {
		job.Base, job.Data = l.text(job.Base), l.text(job.Data)
		l.jobs = append(l.jobs, job)
	}
	l.jobs = append(l.jobs, api.Job{Kind: 7, Size: 7})
	l.jobs = l.jobs[:cap(l.jobs)]
	l.jobsWere = slices.Clone(l.jobs)
	return l.jobs[:len(jobs)]
}

func (l *loan) isAsItWas() bool {
	return slices.EqualFunc(l.bytes, l.were, bytes.Equal) && slices.Equal(l.ops, l.opsWere) && slices.Equal(l.jobs, l.jobsWere)
}

func (l *loan) spoil() {
	for _, b := range l.bytes {
		invert(b)
	}
	for i := range l.ops {
		l.ops[i] = api.Op{Kind: -7, Place: "/spoilt"}
	}
	for i := range l.jobs {
		l.jobs[i] = api.Job{Kind: api.JobLock, Base: "/spoilt"}
	}
}

// scribble writes over all lists and texts of a value, and over the room behind lists.
func scribble(v any) {
	each(reflect.ValueOf(v), func(v reflect.Value) {
		switch v.Kind() {
		case reflect.String:
			if v.Len() > 1 {
				invert(unsafe.Slice(unsafe.StringData(v.String()), v.Len()))
			}
		case reflect.Slice:
			whole, wrong := v.Slice(0, v.Cap()), garbage(v.Type().Elem())
			for i := range whole.Len() {
				whole.Index(i).Set(wrong)
			}
		}
	})
}

func invert(data []byte) {
	for i := range data {
		data[i] ^= 0xff
	}
}

// garbage is a value that nobody would answer.
func garbage(of reflect.Type) reflect.Value {
	v := reflect.New(of).Elem()
	switch of.Kind() {
	case reflect.Int:
		v.SetInt(-7)
	case reflect.String:
		v.SetString("/spoilt")
	case reflect.Struct:
		for i := range v.NumField() {
			v.Field(i).Set(garbage(of.Field(i).Type))
		}
	}
	return v
}

// answers are all that a drill answers at a step.
type answers struct {
	Told   []api.Told
	Sights []api.Held
}

func answersOf(d *drill.Drill, s api.Step) (answers, api.Errno) {
	told, code := d.Step(s)
	return answers{told, d.Sights()}, code
}

// along goes through the steps of plays, each with a drill whose jobs were lent to it; what is done with a step is left to whoever looks.
func along(t *testing.T, seeds, kind uint64, begins func(jobs *loan), does func(d *drill.Drill, g *again, s api.Step)) {
	t.Helper()
	for seed := range seeds {
		c := chanceOf(seed, kind)
		rules, m := c.rules(), c.mood()
		jobs := c.jobsOf(rules.Clients, allKinds()...)
		x, g := witnessOf(t, rules, map[string]int{}, jobs...), againOf(rules, jobs...)
		var l loan
		d := begun(t, rules, l.lentJobs(jobs)...)
		begins(&l)
		for number := range 160 {
			s := x.step(c, m)
			if number%3 == 2 {
				s = calms(1)
			}
			x.play(s)
			if does(d, g, s); t.Failed() {
				t.Fatalf("seed %d, %+v", seed, s)
			}
		}
	}
}

// TestNothingIsShared: P21.6, whatever is written over what was handed in, and then over what was answered, the drill goes on as if nothing were.
func TestNothingIsShared(t *testing.T) {
	t.Parallel()
	told, values := 0, 0
	along(t, 60, 231, (*loan).spoil, func(d *drill.Drill, g *again, s api.Step) {
		var l loan
		got, code := answersOf(d, l.lent(s))
		l.spoil()
		want, wantCode := g.step(s)
		if code != wantCode || !same(got, answers{want, g.sights()}) {
			t.Errorf("P21.6: behind what was written over, %s answers %s\nwant %s", tell(s), tell(got), tell(answers{want, g.sights()}))
		}
		told += len(got.Told)
		for _, h := range got.Sights {
			values += len(h.Values)
		}
		scribble(got)
	})
	if told < 2000 || values < 1000 {
		t.Errorf("the plays tell only %d things, and %d values", told, values)
	}
}

// TestHandedInStays: P21.6, nothing that is handed in is changed, nor the room behind it.
func TestHandedInStays(t *testing.T) {
	t.Parallel()
	var jobs *loan
	along(t, 30, 232, func(l *loan) { jobs = l }, func(d *drill.Drill, g *again, s api.Step) {
		var l loan
		step := l.lent(s)
		for _, none := range []*drill.Drill{nil, {}} {
			none.Step(step)
		}
		got, _ := answersOf(d, step)
		if scribble(got); !l.isAsItWas() || !jobs.isAsItWas() {
			t.Errorf("P21.6: %s changes what is handed in", tell(s))
		}
	})
	for _, wrong := range []api.Job{{Kind: 9}, {Kind: 1, Base: "no place"}} {
		var l loan
		drill.New(rulesOf(1, 4), l.lentJobs([]api.Job{jobOf(1), {}, wrong})...)
		drill.New(rulesOf(1, 1), l.lentJobs([]api.Job{jobOf(1), {}, wrong})...)
		if !l.isAsItWas() {
			t.Error("P21.6: New changes what is handed in")
		}
	}
}

// TestAnswersAreNew: P21.6, no two lists or texts of answers, and of what was handed in, have memory in common, spare room too.
func TestAnswersAreNew(t *testing.T) {
	t.Parallel()
	var all []stretch
	owned := 0
	own := func(v any, isOne bool) {
		owned++
		for _, s := range memory(v) {
			if !isOne {
				owned++
			}
			s.owner = owned
			all = append(all, s)
		}
	}
	steps := 0
	along(t, 30, 233, func(l *loan) {
		all = nil
		own(l.jobs, true)
	}, func(d *drill.Drill, g *again, s api.Step) {
		var l loan
		step := l.lent(s)
		own(step, true)
		got, _ := answersOf(d, step)
		own(got, false)
		own(d.Sights(), false)
		if steps++; steps%20 == 0 {
			own(sightOf(d.World()), false)
		}
		if steps%160 == 0 && shared(all) {
			t.Error("P21.6: answers have memory in common")
		}
	})
}

// TestNoSpareRoom: W6, behind the lists of an answer nothing stands.
func TestNoSpareRoom(t *testing.T) {
	t.Parallel()
	along(t, 30, 234, func(*loan) {}, func(d *drill.Drill, g *again, s api.Step) {
		got, _ := answersOf(d, s)
		each(reflect.ValueOf(got), func(v reflect.Value) {
			if v.Kind() != reflect.Slice {
				return
			}
			for i := v.Len(); i < v.Cap(); i++ {
				if !v.Slice(0, v.Cap()).Index(i).IsZero() {
					t.Errorf("W6: something stands behind a list that %s answers", tell(s))
				}
			}
		})
	})
}
