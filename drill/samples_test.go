package drill_test

import (
	"fmt"
	"math"
	"math/rand/v2"
	"reflect"
	"runtime/debug"
	"testing"

	"herald/api"
	"herald/drill"
	"herald/world"
)

// TestMain: little is held at any time, so that without this half of the time would go by collecting garbage.
func TestMain(m *testing.M) {
	debug.SetGCPercent(800)
	m.Run()
}

const most = api.MaxNumber

// ends are numbers at and around the ends of what a number and an int can be.
func ends() []int {
	return []int{math.MinInt, math.MinInt + 1, -1 << 32, -most - 1, -most, -2, -1, 0, 1, 2, 3, most - 1, most, most + 1, 1 << 32, 1<<32 + 1, math.MaxInt - 1, math.MaxInt}
}

// rulesOf are rules with so many nodes and clients.
func rulesOf(nodes, clients int) api.Rules {
	return api.Rules{Nodes: nodes, Clients: clients, Queue: 4, Ring: 16, Window: 2}
}

func begun(t *testing.T, rules api.Rules, jobs ...api.Job) *drill.Drill {
	t.Helper()
	d, code := drill.New(rules, jobs...)
	if code != api.OK || d == nil {
		t.Fatalf("P21.1: New(%+v, %+v) says %d", rules, jobs, code)
	}
	return d
}

// Jobs:

const base = "/l"

// jobOf is one of a kind, at the base of most tests.
func jobOf(kind int) api.Job {
	job := api.Job{Kind: kind, Base: base}
	if kind != api.JobCounter && kind != api.JobTake {
		job.Data = "it"
	}
	if kind != api.JobLock && kind != api.JobElect {
		job.Size = 2
	}
	return job
}

func allKinds() []int {
	return []int{api.JobLock, api.JobElect, api.JobBarrier, api.JobCounter, api.JobPut, api.JobTake}
}

// nameOf is what the names of a job's nodes begin with.
func nameOf(kind int) string {
	return map[int]string{api.JobLock: "lock-", api.JobElect: "vote-", api.JobBarrier: "wait-", api.JobPut: "item-", api.JobTake: "item-"}[kind]
}

// Steps:

func stepOf(kind int, numbers ...int) api.Step {
	numbers = append(numbers, 0, 0, 0)
	return api.Step{Kind: kind, A: numbers[0], B: numbers[1], C: numbers[2]}
}

func delivers(a int) api.Step { return stepOf(api.StepDeliver, a) }

func drops(a int) api.Step { return stepOf(api.StepDrop, a) }

func doubles(a int) api.Step { return stepOf(api.StepDouble, a) }

func spoils(a, b, c int) api.Step { return stepOf(api.StepSpoil, a, b, c) }

func ticks(a int) api.Step { return stepOf(api.StepTick, a) }

func crashes(a int) api.Step { return stepOf(api.StepCrash, a) }

func withins(a, b int) api.Step { return stepOf(api.StepWithin, a, b) }

func restarts(a int) api.Step { return stepOf(api.StepRestart, a) }

func promotes(a, b int) api.Step { return stepOf(api.StepPromote, a, b) }

func saves(a int) api.Step { return stepOf(api.StepSave, a) }

func calms(a int) api.Step { return stepOf(api.StepCalm, a) }

func begins(a int) api.Step { return stepOf(api.StepBegin, a) }

func finishes(a int) api.Step { return stepOf(api.StepEnd, a) }

func leaves(a int) api.Step { return stepOf(api.StepLeave, a) }

func does(a int, ops ...api.Op) api.Step { return api.Step{Kind: api.StepDo, A: a, Ops: ops} }

func watches(a int, place string, kind int) api.Step {
	return api.Step{Kind: api.StepWatch, A: a, B: kind, Place: place}
}

func unwatches(a, b int) api.Step { return stepOf(api.StepUnwatch, a, b) }

// Ops:

func makes(place, data string, flags int) api.Op {
	return api.Op{Kind: api.OpMake, Place: place, Data: data, Flags: flags}
}

func sets(place, data string) api.Op {
	return api.Op{Kind: api.OpSet, Place: place, Data: data, Version: -1}
}

func lists(place string) api.Op { return api.Op{Kind: api.OpList, Place: place} }

func gets(place string) api.Op { return api.Op{Kind: api.OpGet, Place: place} }

func dropsAt(place string) api.Op { return api.Op{Kind: api.OpDrop, Place: place, Version: -1} }

// Wishes:

func toDo(ops ...api.Op) api.Wish { return api.Wish{Kind: api.WishDo, Ops: ops} }

func toWatch(place string, kind int) api.Wish {
	return api.Wish{Kind: api.WishWatch, Place: place, Watch: kind}
}

func toUnwatch(id int) api.Wish { return api.Wish{Kind: api.WishUnwatch, Id: id} }

// Things told:

func called(step, client, session, request int, ops ...api.Op) api.Told {
	return api.Told{Step: step, Client: client, Kind: api.ToldCall, Session: session, Request: request, Ops: ops}
}

func watched(step, client, session, id int, place string, kind int) api.Told {
	return api.Told{Step: step, Client: client, Kind: api.ToldWatch, Session: session, Watch: api.Watch{Id: id, Place: place, Kind: kind}}
}

func unwatched(step, client, session, id int, place string, kind int) api.Told {
	return api.Told{Step: step, Client: client, Kind: api.ToldUnwatch, Session: session, Watch: api.Watch{Id: id, Place: place, Kind: kind}}
}

func toldOf(step, client, kind, session int) api.Told {
	return api.Told{Step: step, Client: client, Kind: kind, Session: session}
}

// plays plays steps that must be taken, and tells all that they told.
func plays(t *testing.T, d *drill.Drill, steps ...api.Step) []api.Told {
	t.Helper()
	var all []api.Told
	for _, s := range steps {
		told, code := d.Step(s)
		if code != api.OK {
			t.Fatalf("P21.2: the step %+v is refused with %d", s, code)
		}
		all = append(all, told...)
	}
	return all
}

// tells plays a step, and holds what it answers.
func tells(t *testing.T, d *drill.Drill, s api.Step, code api.Errno, want ...api.Told) {
	t.Helper()
	told, got := d.Step(s)
	if got != code || !same(told, want) {
		t.Errorf("P21.2: the step %+v = %d, %s\nwant %d, %s", s, got, tell(told), code, tell(want))
	}
}

// stands holds how the jobs stand, in words.
func stands(t *testing.T, d *drill.Drill, want ...string) {
	t.Helper()
	var got []string
	for _, h := range d.Sights() {
		got = append(got, word(h))
	}
	is(t, "P21.4: Sights", got, want)
}

// word is how a job stands, in short.
func word(h api.Held) string {
	text := map[int]string{api.HeldOut: "out", api.HeldAsking: "asking", api.HeldWaiting: "waiting", api.HeldIn: "in", api.HeldDone: "done"}[h.Phase]
	if h.Place != "" {
		text += " " + h.Place
	}
	if h.Stamp != 0 {
		text += fmt.Sprintf(" at %d", h.Stamp)
	}
	if h.Code != api.OK {
		text += fmt.Sprintf(" by %d", h.Code)
	}
	for _, v := range h.Values {
		text += " " + v
	}
	return text
}

// sight is all that a world shows.
type sight struct {
	History  []api.Entry
	Numbers  []int
	Messages []api.Message
	Sights   []api.Sight
	Disks    [][]byte
	Trees    []api.Shot
	Pictures [][]api.Part
	Codes    []api.Errno
	Views    []api.View
}

func sightOf(w *world.World) sight {
	s := sight{History: w.History(), Views: w.Views()}
	s.Numbers, s.Messages = w.Flight()
	for i := range 8 {
		n, code := w.Sight(i)
		disk, code2 := w.Disk(i)
		tree, code3 := w.Part(i, "/", api.WatchSubtree)
		pictures, code4 := w.Pictures(i)
		s.Sights, s.Disks, s.Trees, s.Pictures = append(s.Sights, n), append(s.Disks, disk), append(s.Trees, tree), append(s.Pictures, pictures)
		s.Codes = append(s.Codes, code, code2, code3, code4)
	}
	return s
}

// whole is all that a drill shows.
type whole struct {
	Sights []api.Held
	World  sight
}

func wholeOf(d *drill.Drill) whole { return whole{d.Sights(), sightOf(d.World())} }

// is holds something against what it should be.
func is(t *testing.T, what string, got, want any) {
	t.Helper()
	if !same(got, want) {
		t.Errorf("%s = %s\nwant %s", what, tell(got), tell(want))
	}
}

// same tells whether two values are the same; a nil list is the same as an empty one.
func same(a, b any) bool { return sameValue(reflect.ValueOf(a), reflect.ValueOf(b)) }

func sameValue(a, b reflect.Value) bool {
	switch a.Kind() {
	case reflect.Slice:
		if a.Len() != b.Len() {
			return false
		}
		for i := range a.Len() {
			if !sameValue(a.Index(i), b.Index(i)) {
				return false
			}
		}
		return true
	case reflect.Struct:
		for i := range a.NumField() {
			if !sameValue(a.Field(i), b.Field(i)) {
				return false
			}
		}
		return true
	}
	return a.Equal(b)
}

// tell is a value as a text that is not too long to be read.
func tell(v any) string { return fmt.Sprintf("%.1500s", text(reflect.ValueOf(v))) }

// text leaves out what is zero.
func text(v reflect.Value) string {
	if !v.IsValid() {
		return "nothing"
	}
	switch v.Kind() {
	case reflect.Struct:
		all := ""
		for i := range v.NumField() {
			if !v.Field(i).IsZero() {
				all += fmt.Sprintf(" %s:%s", v.Type().Field(i).Name, text(v.Field(i)))
			}
		}
		return "{" + all + " }"
	case reflect.Slice:
		if v.Type().Elem().Kind() == reflect.Uint8 {
			break
		}
		all := ""
		for i := range v.Len() {
			all += " " + text(v.Index(i))
		}
		return "[" + all + " ]"
	}
	return fmt.Sprintf("%+v", v)
}

// chance makes the same steps in every run.
type chance struct{ *rand.Rand }

func chanceOf(seed, kind uint64) chance { return chance{rand.New(rand.NewPCG(seed, kind))} }

func pick[T any](c chance, from ...T) T { return from[c.IntN(len(from))] }
