package world_test

import (
	"bytes"
	"reflect"
	"slices"
	"testing"
	"unsafe"

	"herald/api"
	"herald/world"
)

// stretch is where something lies in memory; of a list its spare room too.
type stretch struct {
	begin, end uintptr
	owner      int
	held       unsafe.Pointer // as long as a stretch is looked at, nothing else may come to lie there
}

// memory has the stretches of all lists and texts of a value, in the room behind lists too.
func memory(v any) []stretch {
	var all []stretch
	add := func(at unsafe.Pointer, size int) {
		if size > 0 {
			all = append(all, stretch{begin: uintptr(at), end: uintptr(at) + uintptr(size), held: at})
		}
	}
	each(reflect.ValueOf(v), func(v reflect.Value) {
		switch v.Kind() {
		case reflect.String:
			if v.Len() == 1 {
				break // Go itself has one text for each byte
			}
			add(unsafe.Pointer(unsafe.StringData(v.String())), v.Len())
		case reflect.Slice:
			add(v.UnsafePointer(), v.Cap()*int(v.Type().Elem().Size()))
		}
	})
	return all
}

// each goes through a value and all that it leads to, what is inside of it first.
func each(v reflect.Value, visit func(reflect.Value)) {
	switch v.Kind() {
	case reflect.Struct:
		for i := range v.NumField() {
			each(v.Field(i), visit)
		}
	case reflect.Slice:
		if v.Type().Elem().Kind() == reflect.Uint8 {
			break
		}
		whole := v.Slice(0, v.Cap())
		for i := range whole.Len() {
			each(whole.Index(i), visit)
		}
	}
	visit(v)
}

// shared tells whether two stretches of different owners have a byte in common.
func shared(all []stretch) bool {
	slices.SortFunc(all, func(a, b stretch) int { return int(a.begin) - int(b.begin) })
	end, owner := uintptr(0), -1
	for _, s := range all {
		if s.begin < end && s.owner != owner {
			return true
		}
		if s.end > end {
			end, owner = s.end, s.owner
		}
	}
	return false
}

// loan is memory that is handed in: texts whose bytes can be written over, lists with room behind their end in which something stands; and how all that was.
type loan struct {
	bytes, were  [][]byte
	ops, opsWere []api.Op
}

func (l *loan) text(s string) string {
	if s == "" {
		return ""
	}
	b := append([]byte(s), "what stands behind the end"...)
	l.bytes, l.were = append(l.bytes, b), append(l.were, slices.Clone(b))
	return unsafe.String(unsafe.SliceData(b), len(s))
}

// lent is the step with all that it hands in lent to it.
func (l *loan) lent(s api.Step) api.Step {
	for _, o := range s.Ops {
		o.Place, o.Data = l.text(o.Place), l.text(o.Data)
		l.ops = append(l.ops, o)
	}
	l.ops = append(l.ops, api.Op{Kind: 7, Version: 7, Flags: 7})
	l.ops = l.ops[:cap(l.ops)]
	l.opsWere = slices.Clone(l.ops)
	s.Place, s.Ops = l.text(s.Place), l.ops[:len(s.Ops)]
	return s
}

func (l *loan) isAsItWas() bool {
	return slices.EqualFunc(l.bytes, l.were, bytes.Equal) && slices.Equal(l.ops, l.opsWere)
}

func (l *loan) spoil() {
	for _, b := range l.bytes {
		for i := range b {
			b[i] ^= 0xff
		}
	}
	for i := range l.ops {
		l.ops[i] = api.Op{Kind: -7, Place: "/spoilt"}
	}
}

// answers are all that a world answers at a step.
type answers struct {
	Told    []api.Told
	Sight   sight
	Parts   []api.Shot
	Refused []api.Part
}

func answersOf(w *world.World, s api.Step) (answers, api.Errno) {
	told, code := w.Step(s)
	a := answers{Told: told, Sight: sightOf(w)}
	a.Refused, _ = w.Pictures(0)
	for _, at := range somePlaces {
		part, _ := w.Part(1, at, api.WatchSubtree)
		a.Parts = append(a.Parts, part)
	}
	return a, code
}

// scribble writes over all lists and texts of a value, and over the room behind lists.
func scribble(v any) {
	each(reflect.ValueOf(v), func(v reflect.Value) {
		switch v.Kind() {
		case reflect.String:
			if v.Len() > 1 {
				invert(unsafe.Slice(unsafe.StringData(v.String()), v.Len()))
			}
		case reflect.Slice:
			whole := v.Slice(0, v.Cap())
			if whole.Type().Elem().Kind() == reflect.Uint8 {
				invert(whole.Bytes())
				return
			}
			wrong := garbage(v.Type().Elem())
			for i := range whole.Len() {
				whole.Index(i).Set(wrong)
			}
		}
	})
}

func invert(data []byte) {
	for i := range data {
		data[i] ^= 0xff
	}
}

// garbage is a value that nobody would answer.
func garbage(of reflect.Type) reflect.Value {
	v := reflect.New(of).Elem()
	switch of.Kind() {
	case reflect.Int:
		v.SetInt(-7)
	case reflect.String:
		v.SetString("/spoilt")
	case reflect.Struct:
		for i := range v.NumField() {
			v.Field(i).Set(garbage(of.Field(i).Type))
		}
	}
	return v
}

// along goes through the steps of plays; what is done with a step is left to whoever looks.
func along(t *testing.T, seeds, kind uint64, do func(w *world.World, g *again, s api.Step)) {
	t.Helper()
	for seed := range seeds {
		c := chanceOf(seed, kind)
		rules := c.rules()
		x, w, g := witnessOf(t, rules, map[string]int{}), begun(t, rules), againOf(rules)
		m := c.mood()
		for number := range 120 {
			s := x.step(c, m)
			if number%8 == 7 {
				s = calms(1)
			}
			x.play(s)
			if do(w, g, s); t.Failed() {
				t.Fatalf("seed %d, %+v", seed, s)
			}
		}
	}
}

// TestNothingIsShared: W6, whatever is written over what was handed in, and then over what was answered, the world goes on as if nothing were.
func TestNothingIsShared(t *testing.T) {
	t.Parallel()
	told := 0
	along(t, 40, 177, func(w *world.World, g *again, s api.Step) {
		var l loan
		got, code := answersOf(w, l.lent(s))
		l.spoil()
		want, wantCode := g.step(s)
		if code != wantCode || !same(got.Told, want) || !same(got.Sight, g.sight()) {
			t.Errorf("W6: behind what was written over, %s answers something else", tell(s))
		}
		told += len(got.Told)
		scribble(got)
	})
	if told < 300 {
		t.Errorf("the plays tell only %d things", told)
	}
}

// TestHandedInStays: W6, nothing that is handed in is changed, nor the room behind it.
func TestHandedInStays(t *testing.T) {
	t.Parallel()
	along(t, 20, 178, func(w *world.World, g *again, s api.Step) {
		var l loan
		step := l.lent(s)
		for _, none := range []*world.World{nil, {}} {
			none.Step(step)
		}
		got, _ := answersOf(w, step)
		g.step(s)
		if scribble(got); !l.isAsItWas() {
			t.Errorf("W6: %s changes what is handed in", tell(s))
		}
	})
}

// TestAnswersAreNew: W6, no two lists or texts of answers, and of what was handed in, have memory in common, spare room too.
func TestAnswersAreNew(t *testing.T) {
	t.Parallel()
	var all []stretch
	owned := 0
	own := func(v any, isOne bool) {
		owned++
		for _, s := range memory(v) {
			if !isOne {
				owned++
			}
			s.owner = owned
			all = append(all, s)
		}
	}
	steps := 0
	along(t, 16, 179, func(w *world.World, g *again, s api.Step) {
		var l loan
		got, _ := answersOf(w, l.lent(s))
		own(l, true)
		if steps++; steps%10 == 0 {
			own(got, false)
			own(sightOf(w), false)
		} else {
			own(got.Told, false)
		}
		if steps%120 > 0 {
			return
		}
		if shared(all) {
			t.Error("W6: answers have memory in common")
		}
		all = nil
	})
}

// TestNoSpareRoom: W6, behind the lists of an answer nothing stands.
func TestNoSpareRoom(t *testing.T) {
	t.Parallel()
	along(t, 20, 180, func(w *world.World, g *again, s api.Step) {
		got, _ := answersOf(w, s)
		each(reflect.ValueOf(got), func(v reflect.Value) {
			if v.Kind() != reflect.Slice {
				return
			}
			for i := v.Len(); i < v.Cap(); i++ {
				if !v.Slice(0, v.Cap()).Index(i).IsZero() {
					t.Errorf("W6: something stands behind a list that %s answers", tell(s))
				}
			}
		})
	})
}
