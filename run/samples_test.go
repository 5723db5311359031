package run_test

import (
	"fmt"
	"math"
	"math/rand/v2"
	"reflect"
	"runtime/debug"
	"strings"
	"testing"

	"herald/api"
	"herald/run"
)

// TestMain: little is held at any time, so that without this much of the time would go by collecting garbage.
func TestMain(m *testing.M) {
	debug.SetGCPercent(800)
	m.Run()
}

const (
	most = api.MaxNumber
	head = "world nodes 2 clients 1 queue 4 ring 16 window 2 lease 0\n"
)

// headRules are those that head says.
func headRules() api.Rules { return api.Rules{Nodes: 2, Clients: 1, Queue: 4, Ring: 16, Window: 2} }

// ends are numbers at and around the ends of what a number and an int can be.
func ends() []int {
	return []int{math.MinInt, math.MinInt + 1, -1 << 32, -most - 2, -most - 1, most + 1, most + 2, 1 << 32, 1<<32 + 1, math.MaxInt - 1, math.MaxInt}
}

// sample is a step, and the line that Print writes of it.
type sample struct {
	step api.Step
	line string
}

func stepOf(kind int, numbers ...int) api.Step {
	numbers = append(numbers, 0, 0, 0)
	return api.Step{Kind: kind, A: numbers[0], B: numbers[1], C: numbers[2]}
}

func does(a int, ops ...api.Op) api.Step { return api.Step{Kind: api.StepDo, A: a, Ops: ops} }

func watches(a int, place string, kind int) api.Step {
	return api.Step{Kind: api.StepWatch, A: a, B: kind, Place: place}
}

func gets(place string) api.Op { return api.Op{Kind: api.OpGet, Place: place} }

// samples have a step of every kind, and an op of every kind.
func samples() []sample {
	return []sample{
		{stepOf(api.StepDeliver, 3), "deliver 3"},
		{stepOf(api.StepDrop, -3), "drop -3"},
		{stepOf(api.StepDouble, 0), "double 0"},
		{stepOf(api.StepSpoil, 1, -2, 255), "spoil 1 -2 255"},
		{stepOf(api.StepTick, 101), "tick 101"},
		{stepOf(api.StepCrash, 2), "crash 2"},
		{stepOf(api.StepWithin, 4, -most), "within 4 -2147483647"},
		{stepOf(api.StepRestart, 1), "restart 1"},
		{stepOf(api.StepPromote, most, 0), "promote 2147483647 0"},
		{stepOf(api.StepSave, 1), "save 1"},
		{stepOf(api.StepCalm, 64), "calm 64"},
		{stepOf(api.StepBegin, 1), "begin 1"},
		{stepOf(api.StepEnd, 6), "end 6"},
		{stepOf(api.StepUnwatch, 1, 7), "unwatch 1 7"},
		{watches(1, "/a", api.WatchNode), "watch 1 /a node"},
		{watches(0, "/", api.WatchKids), "watch 0 / kids"},
		{watches(-1, "a b", api.WatchSubtree), `watch -1 "a b" subtree`},
		{does(1, api.Op{Kind: api.OpMake, Place: "/a", Data: "x y"}), `do 1 make /a "x y"`},
		{does(2, api.Op{Kind: api.OpMake, Place: "/a/b", Flags: api.FlagBrief}), `do 2 make /a/b "" brief`},
		{does(3, api.Op{Kind: api.OpMake, Place: "/n", Data: "\n", Flags: api.FlagCounted}), `do 3 make /n "\n" counted`},
		{does(4, api.Op{Kind: api.OpMake, Place: "", Data: "#;", Flags: 3}), `do 4 make "" "#;" brief counted`},
		{does(5, api.Op{Kind: api.OpSet, Place: "/A.b-c_9", Data: "\"\\", Version: -1}), `do 5 set /A.b-c_9 "\"\\" -1`},
		{does(0, api.Op{Kind: api.OpDrop, Place: "/a", Version: 7}), "do 0 drop /a 7"},
		{does(0, api.Op{Kind: api.OpCheck, Place: "//", Version: 0}), "do 0 check // 0"},
		{does(1, gets("/a")), "do 1 get /a"},
		{does(1, api.Op{Kind: api.OpLook, Place: "\x00\x1f\x7f\x80\xff"}), `do 1 look "\x00\x1f\x7f\x80\xff"`},
		{does(1, api.Op{Kind: api.OpList, Place: "/"}), "do 1 list /"},
		{does(1, gets("/a"), gets("b"), gets("/"), api.Op{Kind: api.OpDrop, Place: "/c", Version: -2}), `do 1 get /a ; get "b" ; get / ; drop /c -2`},
	}
}

// script is a script of such lines, behind head.
func script(lines ...string) string { return head + strings.Join(lines, "\n") }

// reads holds that Parse reads just these steps.
func reads(t *testing.T, text string, want ...api.Step) {
	t.Helper()
	rules, steps, code, line := run.Parse(text)
	if rules != headRules() || !same(steps, want) || code != api.OK || line != 0 {
		t.Errorf("P18.1: Parse(%s) = %+v, %s, %d, %d, want %s", short(text), rules, tell(steps), code, line, tell(want))
	}
}

// refuses holds that Parse refuses a script, and answers nothing else.
func refuses(t *testing.T, text string, wantCode api.Errno, wantLine int) {
	t.Helper()
	rules, steps, code, line := run.Parse(text)
	if rules != (api.Rules{}) || len(steps) > 0 || code != wantCode || line != wantLine {
		t.Errorf("P18.1: Parse(%s) = %+v, %s, %d, %d, want %d, %d", short(text), rules, tell(steps), code, line, wantCode, wantLine)
	}
}

// is holds something against what it should be.
func is(t *testing.T, what string, got, want any) {
	t.Helper()
	if !same(got, want) {
		t.Errorf("%s = %s, want %s", what, tell(got), tell(want))
	}
}

// same tells whether two values are the same; a nil list is the same as an empty one.
func same(a, b any) bool { return sameValue(reflect.ValueOf(a), reflect.ValueOf(b)) }

func sameValue(a, b reflect.Value) bool {
	switch a.Kind() {
	case reflect.Slice:
		if a.Len() != b.Len() {
			return false
		}
		for i := range a.Len() {
			if !sameValue(a.Index(i), b.Index(i)) {
				return false
			}
		}
		return true
	case reflect.Struct:
		for i := range a.NumField() {
			if !sameValue(a.Field(i), b.Field(i)) {
				return false
			}
		}
		return true
	}
	return a.Equal(b)
}

// tell is a value as a text that is not too long to be read.
func tell(v any) string { return fmt.Sprintf("%.700s", fmt.Sprintf("%+v", v)) }

// short is the end of a text, if it is long, quoted.
func short(text string) string {
	if len(text) > 300 {
		return fmt.Sprintf("%d bytes, at the end %q", len(text), text[len(text)-200:])
	}
	return fmt.Sprintf("%q", text)
}

// chance makes the same things in every run.
type chance struct{ *rand.Rand }

func chanceOf(seed, kind uint64) chance { return chance{rand.New(rand.NewPCG(seed, kind))} }

func pick[T any](c chance, from ...T) T { return from[c.IntN(len(from))] }

// number is one that a script can have.
func (c chance) number() int {
	return pick(c, 0, 1, 2, -1, 9, 10, 99, 100, 101, most, -most, most-1, c.IntN(1000), -c.IntN(1000), c.IntN(most))
}

// text is one of any bytes, that a script can have; most of them are short.
func (c chance) text() string {
	size := pick(c, 0, 1, 2, 3, 8, c.IntN(20), c.IntN(api.MaxRaw+1), api.MaxRaw)
	data := make([]byte, size)
	for i := range data {
		data[i] = pick(c, byte(c.IntN(256)), byte(' '+c.IntN(95)), '"', '\\', '\n', 'x', '#', ';')
	}
	return string(data)
}

// place is a text that may be a bare place, or nearly one.
func (c chance) place() string {
	text := pick(c, "/", "", "/", "/", "//", "a")
	for range pick(c, 0, 1, 2, 5, 255) {
		text += pick(c, "a", "z", "A", "Z", "0", "9", "/", "-", "_", ".")
	}
	if c.IntN(8) == 0 {
		text += pick(c, " ", "@", "[", "`", "{", ":", ",", "\x80", "\n", "\"", "#", ";", "\\", "/")
	}
	text = pick(c, text, text, c.text())
	return text[:min(len(text), api.MaxRaw)]
}

func (c chance) op() api.Op {
	o := api.Op{Kind: 1 + c.IntN(7), Place: c.place()}
	switch o.Kind {
	case api.OpMake:
		o.Data, o.Flags = c.text(), c.IntN(4)
	case api.OpSet:
		o.Data, o.Version = c.text(), c.number()
	case api.OpDrop, api.OpCheck:
		o.Version = c.number()
	}
	return o
}

// step is one that a script can have.
func (c chance) step() api.Step {
	s := stepOf(pick(c, 1+c.IntN(16), 1+c.IntN(16), api.StepDo), c.number())
	switch s.Kind {
	case api.StepSpoil:
		s.B, s.C = c.number(), c.number()
	case api.StepWithin, api.StepPromote, api.StepUnwatch:
		s.B = c.number()
	case api.StepWatch:
		s.B, s.Place = 1+c.IntN(3), c.place()
	case api.StepDo:
		for range 1 + c.IntN(api.MaxOps) {
			s.Ops = append(s.Ops, c.op())
		}
	}
	return s
}

func (c chance) steps(count int) []api.Step {
	var steps []api.Step
	for range count {
		steps = append(steps, c.step())
	}
	return steps
}

func (c chance) rules() api.Rules {
	return api.Rules{Nodes: c.number(), Clients: c.number(), Queue: c.number(), Ring: c.number(), Window: c.number(), Lease: c.number()}
}
