package line_test

import (
	"bytes"
	"reflect"
	"slices"
	"testing"
	"unsafe"

	"herald/api"
	"herald/line"
)

// stretch is where something lies in memory; of a list its spare room too.
type stretch struct {
	begin, end uintptr
	owner      int
	held       unsafe.Pointer // as long as a stretch is looked at, nothing else may come to lie there
}

// memory has the stretches of all lists and texts of a value, in the room behind lists too; of a line those of all that it keeps.
func memory(v any) []stretch {
	var all []stretch
	add := func(at unsafe.Pointer, size int) {
		if size > 0 {
			all = append(all, stretch{begin: uintptr(at), end: uintptr(at) + uintptr(size), held: at})
		}
	}
	each(reflect.ValueOf(v), func(v reflect.Value) {
		switch v.Kind() {
		case reflect.String:
			if v.Len() == 1 {
				break // Go itself has one text for each byte
			}
			add(unsafe.Pointer(unsafe.StringData(v.String())), v.Len())
		case reflect.Slice:
			add(v.UnsafePointer(), v.Cap()*int(v.Type().Elem().Size()))
		}
	})
	return all
}

// each goes through a value and all that it leads to, what is inside of it first.
func each(v reflect.Value, visit func(reflect.Value)) {
	switch v.Kind() {
	case reflect.Pointer:
		each(v.Elem(), visit)
	case reflect.Struct:
		for i := range v.NumField() {
			each(v.Field(i), visit)
		}
	case reflect.Map:
		for pairs := v.MapRange(); pairs.Next(); {
			each(pairs.Value(), visit)
		}
	case reflect.Slice:
		whole := v.Slice(0, v.Cap())
		for i := range whole.Len() {
			each(whole.Index(i), visit)
		}
	}
	visit(v)
}

// shared tells whether two stretches of different owners have a byte in common.
func shared(all []stretch) bool {
	slices.SortFunc(all, func(a, b stretch) int { return int(a.begin) - int(b.begin) })
	end, owner := uintptr(0), -1
	for _, s := range all {
		if s.begin < end && s.owner != owner {
			return true
		}
		if s.end > end {
			end, owner = s.end, s.owner
		}
	}
	return false
}

// loan is memory that is handed in: texts whose bytes can be written over, a list with room behind its end in which something stands; and how all that was.
type loan struct {
	bytes, were    [][]byte
	list, listWere []api.Message
}

func (l *loan) text(s string) string {
	if s == "" {
		return ""
	}
	b := append([]byte(s), "what stands behind the end"...)
	l.bytes, l.were = append(l.bytes, b), append(l.were, slices.Clone(b))
	return unsafe.String(unsafe.SliceData(b), len(s))
}

// lent is the call with all that it hands in lent to it.
func (x call) lent(l *loan) call {
	for _, m := range x.messages {
		m.Bytes = l.text(m.Bytes)
		l.list = append(l.list, m)
	}
	l.list = append(l.list, api.Message{From: 7, To: 7}, api.Message{From: 8})
	l.listWere = slices.Clone(l.list)
	x.messages = l.list[:len(x.messages)]
	return x
}

func (l *loan) isAsItWas() bool {
	return slices.EqualFunc(l.bytes, l.were, bytes.Equal) && slices.Equal(l.list, l.listWere)
}

func (l *loan) spoil() {
	for _, b := range l.bytes {
		for i := range b {
			b[i] ^= 0xff
		}
	}
	for i := range l.list {
		l.list[i] = api.Message{From: -7, To: -7, Bytes: "written over"}
	}
}

// scribble writes over a list of numbers, and over the room behind it.
func scribble(numbers []int) {
	numbers = numbers[:cap(numbers)]
	for i := range numbers {
		numbers[i] = -7
	}
}

// scrawl turns the bytes of a text that was answered; none shorter, as Go itself has one text for each byte.
func scrawl(text string) {
	if len(text) < 2 {
		return
	}
	data := unsafe.Slice(unsafe.StringData(text), len(text))
	for i := range data {
		data[i] ^= 0xff
	}
}

// along goes through calls of scripts by chance; what is done with a call is left to whoever looks.
func along(t *testing.T, seeds, kind uint64, do func(l *line.Line, g *again, x call)) {
	t.Helper()
	for seed := range seeds {
		c := chanceOf(seed, kind)
		l, g := line.New(), &again{}
		for range 150 {
			do(l, g, c.call(g, pick(c, 3, 8, 256)))
			if t.Failed() {
				t.Fatalf("seed %d", seed)
			}
		}
		if g.isLikeInside(t, l); t.Failed() {
			t.Fatalf("seed %d: at the end", seed)
		}
	}
}

// TestNothingIsShared: P16.7, whatever is written over what was handed in, and then over what was answered, the line goes on as if nothing were.
func TestNothingIsShared(t *testing.T) {
	along(t, 60, 161, func(l *line.Line, g *again, x call) {
		var lent loan
		got := x.lent(&lent).on(l)
		lent.spoil()
		if want := x.again(g); !got.is(want) {
			t.Errorf("P16.7: %s = %s, want %s", x, tell(got), tell(want))
		}
		scribble(got.numbers)
		scrawl(got.message.Bytes)
		scribble(l.Numbers())
		m, _ := l.Look(g.oldest())
		scrawl(m.Bytes)
		numbering(t, l, g.numbers()...)
		want, code := g.look(g.oldest())
		looking(t, l, g.oldest(), want, code)
	})
}

// TestHandedInStays: P16.7, nothing that is handed in is changed, nor the room behind it; of a nil line neither.
func TestHandedInStays(t *testing.T) {
	along(t, 30, 162, func(l *line.Line, g *again, x call) {
		var lent loan
		y := x.lent(&lent)
		y.on(nil)
		scribble(y.on(l).numbers)
		x.again(g)
		for _, number := range g.numbers() {
			l.Look(number)
		}
		if !lent.isAsItWas() {
			t.Errorf("P16.7: %s changes what is handed in", x)
		}
	})
}

// TestSpoilKeepsHandedIn: P16.7, what is spoilt is the line's own copy.
func TestSpoilKeepsHandedIn(t *testing.T) {
	l := line.New()
	var lent loan
	x := send(letters(1, 3)...).lent(&lent)
	x.on(l)
	answered, _ := l.Look(2)
	for number := 1; number <= 3; number++ {
		spoiling(t, l, number, 4, 255, api.OK)
	}
	if !lent.isAsItWas() || answered != letter(2) {
		t.Error("P16.7: a spoiling reaches what was handed in, or answered")
	}
}

// TestAnswersAreNew: P16.7 and W6, no two lists or texts of answers, of what was handed in and of what the line keeps have memory in common, spare room too.
func TestAnswersAreNew(t *testing.T) {
	for seed := range uint64(40) {
		c := chanceOf(seed, 163)
		l, g := line.New(), &again{}
		var all []stretch
		owned := 0
		own := func(v any, isOne bool) {
			owned++
			for _, s := range memory(v) {
				if !isOne {
					owned++
				}
				s.owner = owned
				all = append(all, s)
			}
		}
		for range 120 {
			var lent loan
			x := c.call(g, pick(c, 3, 8, 256))
			a := x.lent(&lent).on(l)
			x.again(g)
			m, _ := l.Look(g.oldest())
			n, _ := l.Look(g.oldest())
			own(lent, true)
			for _, v := range []any{a.message, a.numbers, l.Numbers(), l.Numbers(), m, n} {
				own(v, false)
			}
		}
		for _, number := range g.numbers()[:len(g.numbers())/2] {
			m, _ := l.Take(number)
			own(m, false)
		}
		for _, s := range memory(l) { // the messages that the line keeps may share a text with one another, with nobody else
			s.owner = -2
			all = append(all, s)
		}
		if shared(all) {
			t.Fatalf("P16.7: seed %d: answers have memory in common", seed)
		}
	}
}

// TestNoSpareRoom: P16.7 and W6, behind the lists of an answer nothing stands.
func TestNoSpareRoom(t *testing.T) {
	along(t, 30, 164, func(l *line.Line, g *again, x call) {
		a := x.on(l)
		x.again(g)
		for _, numbers := range [][]int{a.numbers, l.Numbers()} {
			for _, n := range numbers[len(numbers):cap(numbers)] {
				if n != 0 {
					t.Errorf("W6: %d stands behind a list that %s answers", n, x)
				}
			}
		}
	})
}

// TestLetGo: of what was taken nothing is kept.
func TestLetGo(t *testing.T) {
	l := line.New()
	for round := range 20 {
		numbers := l.Send(letters(round, 100)...)
		if len(memory(l)) != 100 {
			t.Fatalf("a line with 100 messages keeps %d texts", len(memory(l)))
		}
		for i, number := range numbers {
			l.Spoil(number, 1, 1)
			l.Take(number)
			if len(memory(l)) != 99-i {
				t.Fatalf("a line with %d messages keeps %d texts", 99-i, len(memory(l)))
			}
		}
	}
}
