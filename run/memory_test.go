package run_test

import (
	"bytes"
	"reflect"
	"slices"
	"strings"
	"testing"
	"unsafe"

	"herald/api"
	"herald/run"
)

// stretch is where something lies in memory; of a list its spare room too.
type stretch struct {
	begin, end uintptr
	owner      int
	held       unsafe.Pointer // as long as a stretch is looked at, nothing else may come to lie there
}

// memory has the stretches of all lists and texts of a value, in the room behind lists too.
func memory(v any) []stretch {
	var all []stretch
	add := func(at unsafe.Pointer, size int) {
		if size > 0 {
			all = append(all, stretch{begin: uintptr(at), end: uintptr(at) + uintptr(size), held: at})
		}
	}
	each(reflect.ValueOf(v), func(v reflect.Value) {
		switch v.Kind() {
		case reflect.String:
			add(unsafe.Pointer(unsafe.StringData(v.String())), v.Len())
		case reflect.Slice:
			add(v.UnsafePointer(), v.Cap()*int(v.Type().Elem().Size()))
		}
	})
	return all
}

// each goes through a value and all that it leads to, what is inside of it first.
func each(v reflect.Value, visit func(reflect.Value)) {
	switch v.Kind() {
	case reflect.Struct:
		for i := range v.NumField() {
			each(v.Field(i), visit)
		}
	case reflect.Slice:
		if v.Type().Elem().Kind() == reflect.Uint8 {
			break
		}
		whole := v.Slice(0, v.Cap())
		for i := range whole.Len() {
			each(whole.Index(i), visit)
		}
	}
	visit(v)
}

// shared tells whether two stretches of different owners have a byte in common.
func shared(all []stretch) bool {
	slices.SortFunc(all, func(a, b stretch) int { return int(a.begin) - int(b.begin) })
	end, owner := uintptr(0), -1
	for _, s := range all {
		if s.begin < end && s.owner != owner {
			return true
		}
		if s.end > end {
			end, owner = s.end, s.owner
		}
	}
	return false
}

// loan is memory that is handed in: texts whose bytes can be written over, lists with room behind their end in which something stands; and how all that was.
type loan struct {
	bytes, were     [][]byte
	steps, stepWere []api.Step
	ops, opsWere    [][]api.Op
}

func (l *loan) text(s string) string {
	b := append([]byte(s), "what stands behind the end"...)
	l.bytes, l.were = append(l.bytes, b), append(l.were, slices.Clone(b))
	return unsafe.String(unsafe.SliceData(b), len(s))
}

// lent are the steps with all that they hand in lent to them.
func (l *loan) lent(steps []api.Step) []api.Step {
	for _, s := range steps {
		var ops []api.Op
		for _, o := range s.Ops {
			o.Place, o.Data = l.text(o.Place), l.text(o.Data)
			ops = append(ops, o)
		}
		ops = append(ops, api.Op{Kind: 7, Version: 7, Flags: 7})
		l.ops, l.opsWere = append(l.ops, ops[:cap(ops)]), append(l.opsWere, slices.Clone(ops[:cap(ops)]))
		s.Place, s.Ops = l.text(s.Place), ops[:len(s.Ops)]
		l.steps = append(l.steps, s)
	}
	l.steps = append(l.steps, api.Step{Kind: 7, A: 7, Place: l.text("/behind")})
	l.steps = l.steps[:cap(l.steps)]
	l.stepWere = slices.Clone(l.steps)
	return l.steps[:len(steps)]
}

func (l *loan) isAsItWas() bool {
	isSameStep := func(a, b api.Step) bool { return reflect.DeepEqual(a, b) }
	return slices.EqualFunc(l.bytes, l.were, bytes.Equal) && slices.EqualFunc(l.steps, l.stepWere, isSameStep) && slices.EqualFunc(l.ops, l.opsWere, slices.Equal)
}

// spoil writes over all that was lent.
func (l *loan) spoil() {
	for _, b := range l.bytes {
		invert(b)
	}
	for _, ops := range l.ops {
		for i := range ops {
			ops[i] = api.Op{Kind: -7, Place: "/spoilt"}
		}
	}
	for i := range l.steps {
		l.steps[i] = api.Step{Kind: -7, Place: "/spoilt"}
	}
}

func invert(data []byte) {
	for i := range data {
		data[i] ^= 0xff
	}
}

// scribble writes over all lists and texts of a value, and over the room behind lists.
func scribble(v any) {
	each(reflect.ValueOf(v), func(v reflect.Value) {
		switch v.Kind() {
		case reflect.String:
			if v.Len() > 1 { // Go itself has one text for each byte
				invert(unsafe.Slice(unsafe.StringData(v.String()), v.Len()))
			}
		case reflect.Slice:
			whole := v.Slice(0, v.Cap())
			wrong := garbage(v.Type().Elem())
			for i := range whole.Len() {
				whole.Index(i).Set(wrong)
			}
		}
	})
}

// garbage is a value that nobody would answer.
func garbage(of reflect.Type) reflect.Value {
	v := reflect.New(of).Elem()
	switch of.Kind() {
	case reflect.Int:
		v.SetInt(-7)
	case reflect.String:
		v.SetString("/spoilt")
	case reflect.Struct:
		for i := range v.NumField() {
			v.Field(i).Set(garbage(of.Field(i).Type))
		}
	}
	return v
}

// memoryScripts are some that are played, and some that are refused.
func memoryScripts() []string {
	list := []string{"", "x", head, script("tick"), "world nodes 0 clients 0 queue 0 ring 0 window 0 lease 0", script(`do 1 get /a ; get "/a" ; make "a" "b"`, "watch 1 /x node"), head + strings.Repeat("do 1 get /a\n", api.MaxSteps)}
	for _, e := range append(wholeExamples(), ownExamples()...) {
		list = append(list, e.script())
	}
	for seed := range uint64(30) {
		c := chanceOf(seed, 188)
		text, _ := run.Print(c.rules(), c.steps(20))
		list = append(list, c.playScript(60), c.damaged(text))
	}
	return list
}

// TestHandedInStays: W6, neither a script nor steps are changed, nor the room behind them.
func TestHandedInStays(t *testing.T) {
	for _, text := range memoryScripts() {
		var l loan
		lent := l.text(text)
		a := allOf(lent)
		if scribble(a); !l.isAsItWas() {
			t.Errorf("P18.6: a call has changed %s", short(text))
		}
	}
	for seed := range uint64(200) {
		c := chanceOf(seed, 189)
		steps := c.steps(c.IntN(20))
		if len(steps) > 0 && c.IntN(2) == 0 {
			c.twist(&steps[c.IntN(len(steps))])
		}
		var l loan
		lent := l.lent(steps)
		text, _ := run.Print(c.rules(), lent)
		if scribble(text); !l.isAsItWas() {
			t.Errorf("P18.6: Print has changed %s", tell(steps))
		}
	}
}

// TestHandedInIsNotKept: P18.6 and W6, whatever is written over what was handed in, what was answered stays as it was.
func TestHandedInIsNotKept(t *testing.T) {
	for _, text := range memoryScripts() {
		var l loan
		got := allOf(l.text(text))
		if l.spoil(); !same(got, allOf(text)) {
			t.Errorf("P18.6: what is answered to %s changes with the script", short(text))
		}
	}
	for seed := range uint64(200) {
		c := chanceOf(seed, 190)
		rules, steps := c.rules(), c.steps(c.IntN(20))
		want, _ := run.Print(rules, steps)
		var l loan
		got, _ := run.Print(rules, l.lent(steps))
		if l.spoil(); got != want {
			t.Errorf("P18.6: what Print wrote of %s changes with the steps", tell(steps))
		}
	}
}

// TestScribbledAnswers: P18.6, whatever is written over what was answered, in the room behind it too, the next answers are the same.
func TestScribbledAnswers(t *testing.T) {
	for _, text := range memoryScripts() {
		want := allOf(strings.Clone(text))
		for range 2 {
			got := allOf(text)
			if !same(got, want) {
				t.Errorf("P18.6: behind scribbled answers %s is answered otherwise", short(text))
			}
			scribble(got)
		}
	}
}

// TestAnswersAreNew: P18.6 and W6, no two lists or texts of answers, and of what was handed in, have memory in common, spare room too.
func TestAnswersAreNew(t *testing.T) {
	for _, text := range memoryScripts() {
		var found []stretch
		owned := 0
		own := func(all []stretch) {
			for _, s := range all {
				owned++
				s.owner = owned
				found = append(found, s)
			}
		}
		var l loan
		lent := l.text(text)
		own(memory(lent))
		for range 2 {
			rules, steps, _, _ := run.Parse(lent)
			own(memory(steps))
			handed := new(loan).lent(steps)
			own(memory(handed))
			printed, _ := run.Print(rules, handed)
			told, history, _ := run.Play(lent)
			own(memory([]string{printed, run.Run(lent)}))
			own(manyBytes(told))
			own(manyBytes(history))
		}
		if shared(found) {
			t.Fatalf("P18.6: answers to %s have memory in common", short(text))
		}
	}
}

// manyBytes are the stretches of what a world told, without those of one byte: for these Go itself may have one text.
func manyBytes(v any) []stretch {
	return slices.DeleteFunc(memory(v), func(s stretch) bool { return s.end-s.begin == 1 })
}

// TestNoSpareRoom: W6, behind the lists of an answer nothing stands.
func TestNoSpareRoom(t *testing.T) {
	for _, text := range memoryScripts() {
		each(reflect.ValueOf(allOf(text)), func(v reflect.Value) {
			if v.Kind() != reflect.Slice {
				return
			}
			for i := v.Len(); i < v.Cap(); i++ {
				if !v.Slice(0, v.Cap()).Index(i).IsZero() {
					t.Errorf("W6: something stands behind a list that is answered to %s", short(text))
				}
			}
		})
	}
}
