package world_test

import (
	"fmt"
	"math"
	"math/rand/v2"
	"reflect"
	"runtime/debug"
	"strings"
	"testing"

	"herald/api"
	"herald/note"
	"herald/world"
)

// TestMain: little is held at any time, so that without this half of the time would go by collecting garbage.
func TestMain(m *testing.M) {
	debug.SetGCPercent(800)
	m.Run()
}

const most = api.MaxNumber

// ends are numbers at and around the ends of what a number and an int can be.
func ends() []int {
	return []int{math.MinInt, math.MinInt + 1, -1 << 32, -most - 1, -most, -2, -1, 0, 1, 2, 3, most - 1, most, most + 1, 1 << 32, 1<<32 + 1, math.MaxInt - 1, math.MaxInt}
}

// rulesOf are rules with so many nodes and clients.
func rulesOf(nodes, clients int) api.Rules {
	return api.Rules{Nodes: nodes, Clients: clients, Queue: 4, Ring: 16, Window: 2}
}

func begun(t *testing.T, rules api.Rules) *world.World {
	t.Helper()
	w, code := world.New(rules)
	if code != api.OK || w == nil {
		t.Fatalf("P17.1: New(%+v) says %d", rules, code)
	}
	return w
}

// Steps:

func stepOf(kind int, numbers ...int) api.Step {
	numbers = append(numbers, 0, 0, 0)
	return api.Step{Kind: kind, A: numbers[0], B: numbers[1], C: numbers[2]}
}

func delivers(a int) api.Step { return stepOf(api.StepDeliver, a) }

func drops(a int) api.Step { return stepOf(api.StepDrop, a) }

func doubles(a int) api.Step { return stepOf(api.StepDouble, a) }

func spoils(a, b, c int) api.Step { return stepOf(api.StepSpoil, a, b, c) }

func ticks(a int) api.Step { return stepOf(api.StepTick, a) }

func crashes(a int) api.Step { return stepOf(api.StepCrash, a) }

func withins(a, b int) api.Step { return stepOf(api.StepWithin, a, b) }

func restarts(a int) api.Step { return stepOf(api.StepRestart, a) }

func promotes(a, b int) api.Step { return stepOf(api.StepPromote, a, b) }

func saves(a int) api.Step { return stepOf(api.StepSave, a) }

func calms(a int) api.Step { return stepOf(api.StepCalm, a) }

func begins(a int) api.Step { return stepOf(api.StepBegin, a) }

func finishes(a int) api.Step { return stepOf(api.StepEnd, a) }

func does(a int, ops ...api.Op) api.Step { return api.Step{Kind: api.StepDo, A: a, Ops: ops} }

func watches(a int, place string, kind int) api.Step {
	return api.Step{Kind: api.StepWatch, A: a, B: kind, Place: place}
}

func unwatches(a, b int) api.Step { return stepOf(api.StepUnwatch, a, b) }

// Ops:

func makes(place, data string) api.Op { return api.Op{Kind: api.OpMake, Place: place, Data: data} }

func sets(place, data string) api.Op {
	return api.Op{Kind: api.OpSet, Place: place, Data: data, Version: -1}
}

func gets(place string) api.Op { return api.Op{Kind: api.OpGet, Place: place} }

// plays plays steps that must be taken, and tells all that they told.
func plays(t *testing.T, w *world.World, steps ...api.Step) []api.Told {
	t.Helper()
	var all []api.Told
	for _, s := range steps {
		told, code := w.Step(s)
		if code != api.OK {
			t.Fatalf("P17.4: the step %+v is refused with %d", s, code)
		}
		all = append(all, told...)
	}
	return all
}

// refuses holds that a step is refused, and that all is as it was.
func refuses(t *testing.T, w *world.World, s api.Step, want api.Errno) {
	t.Helper()
	before := sightOf(w)
	if told, code := w.Step(s); code != want || len(told) > 0 {
		t.Errorf("P17.4: the step %s = %s, %d, want %d", tell(s), tell(told), code, want)
	}
	if after := sightOf(w); !same(before, after) {
		t.Errorf("P17.4: the refused step %s has changed %s to %s", tell(s), tell(before), tell(after))
	}
}

// sight is all that a world shows.
type sight struct {
	History  []api.Entry
	Numbers  []int
	Messages []api.Message
	Sights   []api.Sight
	Disks    [][]byte
	Trees    []api.Shot
	Pictures [][]api.Part
	Codes    []api.Errno
	Views    []api.View
}

func sightOf(w *world.World) sight {
	s := sight{History: w.History(), Views: w.Views()}
	s.Numbers, s.Messages = w.Flight()
	for i := range 8 {
		n, code := w.Sight(i)
		disk, code2 := w.Disk(i)
		tree, code3 := w.Part(i, "/", api.WatchSubtree)
		pictures, code4 := w.Pictures(i)
		s.Sights, s.Disks, s.Trees, s.Pictures = append(s.Sights, n), append(s.Disks, disk), append(s.Trees, tree), append(s.Pictures, pictures)
		s.Codes = append(s.Codes, code, code2, code3, code4)
	}
	return s
}

// messageOf is a note on its way, whatever the addresses.
func messageOf(t *testing.T, from, to int, n api.Note) api.Message {
	t.Helper()
	m, code := note.Message(1, 0, n)
	if code != api.OK {
		t.Fatalf("P3.6: Message of %+v says %d", n, code)
	}
	m.From, m.To = from, to
	return m
}

func noteIn(t *testing.T, m api.Message) api.Note {
	t.Helper()
	n, code := note.Open(m)
	if code != api.OK {
		t.Fatalf("P3.7: Open of a message from %d to %d says %d", m.From, m.To, code)
	}
	return n
}

// flying tells the kinds of the notes in flight, each with from whom to whom it goes.
func flying(t *testing.T, w *world.World) [][3]int {
	t.Helper()
	var all [][3]int
	_, messages := w.Flight()
	for _, m := range messages {
		all = append(all, [3]int{m.From, m.To, noteIn(t, m).Kind})
	}
	return all
}

// is holds something against what it should be.
func is(t *testing.T, what string, got, want any) {
	t.Helper()
	if !same(got, want) {
		t.Errorf("%s = %s, want %s", what, tell(got), tell(want))
	}
}

// same tells whether two values are the same; a nil list is the same as an empty one.
func same(a, b any) bool { return sameValue(reflect.ValueOf(a), reflect.ValueOf(b)) }

func sameValue(a, b reflect.Value) bool {
	switch a.Kind() {
	case reflect.Slice:
		if a.Len() != b.Len() {
			return false
		}
		for i := range a.Len() {
			if !sameValue(a.Index(i), b.Index(i)) {
				return false
			}
		}
		return true
	case reflect.Struct:
		for i := range a.NumField() {
			if !sameValue(a.Field(i), b.Field(i)) {
				return false
			}
		}
		return true
	}
	return a.Equal(b)
}

// tell is a value as a text that is not too long to be read.
func tell(v any) string { return fmt.Sprintf("%.500s", fmt.Sprintf("%+v", v)) }

// chance makes the same steps in every run.
type chance struct{ *rand.Rand }

func chanceOf(seed, kind uint64) chance { return chance{rand.New(rand.NewPCG(seed, kind))} }

func pick[T any](c chance, from ...T) T { return from[c.IntN(len(from))] }

// somePlaces are those of which the plays' clients speak.
var somePlaces = []string{"/", "/a", "/a/b", "/a/n00000", "/c", "/c/n00001"}

func (c chance) place() string { return pick(c, somePlaces...) }

// ops are those of a request; most of them change something.
func (c chance) ops() []api.Op {
	var ops []api.Op
	for range pick(c, 1, 1, 1, 2, 3, 4) {
		o := api.Op{Place: c.place(), Data: pick(c, "", "x", "some data", strings.Repeat("d", api.MaxData+c.IntN(2)))}
		switch c.IntN(10) {
		case 0, 1, 2, 3:
			o.Kind, o.Flags = api.OpMake, pick(c, 0, 0, api.FlagBrief, api.FlagCounted, api.FlagBrief|api.FlagCounted)
			if o.Flags&api.FlagCounted != 0 {
				o.Place = pick(c, "/n", "/a/n", "/c/n")
			}
		case 4, 5, 6:
			o.Kind, o.Version = api.OpSet, pick(c, -1, -1, -1, 0, 1, 2)
		case 7:
			o.Kind, o.Version = api.OpDrop, pick(c, -1, -1, 0)
		default:
			o.Kind, o.Version = pick(c, api.OpCheck, api.OpGet, api.OpLook, api.OpList, 0, 8), c.IntN(3)
		}
		ops = append(ops, o)
	}
	return ops
}

// rules are such as a play may have.
func (c chance) rules() api.Rules {
	return api.Rules{Nodes: pick(c, 1, 2, 2, 3, 3, 5), Clients: 1 + c.IntN(4), Queue: pick(c, 1, 2, 4, 32), Ring: pick(c, 1, 2, 8, 8, 9, 16, 64), Window: pick(c, 1, 2, 8), Lease: pick(c, 0, 0, 0, 1, 3, 20)}
}
