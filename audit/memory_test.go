package audit_test

import (
	"bytes"
	"reflect"
	"slices"
	"testing"
	"unsafe"

	"herald/api"
	"herald/audit"
)

// stretch is where something lies in memory; of a list its spare room too.
type stretch struct {
	begin, end uintptr
	owner      int
	held       unsafe.Pointer // as long as a stretch is looked at, nothing else may come to lie there
}

// memory has the stretches of all lists and texts of a value, in the room behind lists too.
func memory(v any) []stretch {
	var all []stretch
	add := func(at unsafe.Pointer, size int) {
		if size > 0 {
			all = append(all, stretch{begin: uintptr(at), end: uintptr(at) + uintptr(size), held: at})
		}
	}
	each(reflect.ValueOf(v), func(v reflect.Value) {
		switch v.Kind() {
		case reflect.String:
			add(unsafe.Pointer(unsafe.StringData(v.String())), v.Len())
		case reflect.Slice:
			add(v.UnsafePointer(), v.Cap()*int(v.Type().Elem().Size()))
		}
	})
	return all
}

// each goes through a value and all that it leads to, what is inside of it first.
func each(v reflect.Value, visit func(reflect.Value)) {
	switch v.Kind() {
	case reflect.Struct:
		for i := range v.NumField() {
			each(v.Field(i), visit)
		}
	case reflect.Slice:
		whole := v.Slice(0, v.Cap())
		for i := range whole.Len() {
			each(whole.Index(i), visit)
		}
	}
	visit(v)
}

// shared tells whether two stretches of different owners have a byte in common.
func shared(all []stretch) bool {
	slices.SortFunc(all, func(a, b stretch) int { return int(a.begin) - int(b.begin) })
	end, owner := uintptr(0), -1
	for _, s := range all {
		if s.begin < end && s.owner != owner {
			return true
		}
		if s.end > end {
			end, owner = s.end, s.owner
		}
	}
	return false
}

// loan is memory that is handed in: texts whose bytes can be written over, lists with room behind their end in which something stands; and how all that was.
type loan struct {
	texts, were     [][]byte
	lists, listWere []reflect.Value
}

// lends is a value all of whose texts and lists are lent to it.
func lends[T any](l *loan, v T) T { return l.lend(reflect.ValueOf(v)).Interface().(T) }

func (l *loan) lend(v reflect.Value) reflect.Value {
	next := reflect.New(v.Type()).Elem()
	switch v.Kind() {
	case reflect.String:
		next.SetString(l.text(v.String()))
	case reflect.Struct:
		for i := range v.NumField() {
			next.Field(i).Set(l.lend(v.Field(i)))
		}
	case reflect.Slice:
		whole := reflect.MakeSlice(v.Type(), 0, v.Len()+2)
		for i := range v.Len() {
			whole = reflect.Append(whole, l.lend(v.Index(i)))
		}
		for whole.Len() < whole.Cap() {
			whole = reflect.Append(whole, garbage(v.Type().Elem()))
		}
		l.lists, l.listWere = append(l.lists, whole), append(l.listWere, clonedValue(whole))
		next.Set(whole.Slice(0, v.Len()))
	default:
		next.Set(v)
	}
	return next
}

func (l *loan) text(s string) string {
	b := append([]byte(s), "what stands behind the end"...)
	l.texts, l.were = append(l.texts, b), append(l.were, slices.Clone(b))
	return unsafe.String(unsafe.SliceData(b), len(s))
}

func (l *loan) isAsItWas() bool {
	isSame := func(a, b reflect.Value) bool { return reflect.DeepEqual(a.Interface(), b.Interface()) }
	return slices.EqualFunc(l.texts, l.were, bytes.Equal) && slices.EqualFunc(l.lists, l.listWere, isSame)
}

// spoil writes over all that was lent.
func (l *loan) spoil() {
	for _, b := range l.texts {
		invert(b)
	}
	for _, list := range l.lists {
		for i := range list.Len() {
			list.Index(i).Set(garbage(list.Type().Elem()))
		}
	}
}

func invert(data []byte) {
	for i := range data {
		data[i] ^= 0xff
	}
}

// scribble writes over all lists and texts of a value, and over the room behind lists.
func scribble(v any) {
	each(reflect.ValueOf(v), func(v reflect.Value) {
		switch v.Kind() {
		case reflect.String:
			if v.Len() > 1 { // Go itself has one text for each byte
				invert(unsafe.Slice(unsafe.StringData(v.String()), v.Len()))
			}
		case reflect.Slice:
			whole := v.Slice(0, v.Cap())
			for i := range whole.Len() {
				whole.Index(i).Set(garbage(v.Type().Elem()))
			}
		}
	})
}

// garbage is a value that nobody would answer.
func garbage(of reflect.Type) reflect.Value {
	v := reflect.New(of).Elem()
	switch of.Kind() {
	case reflect.Int:
		v.SetInt(-7)
	case reflect.Bool:
		v.SetBool(true)
	case reflect.String:
		v.SetString("/spoilt")
	case reflect.Struct:
		for i := range v.NumField() {
			v.Field(i).Set(garbage(of.Field(i).Type))
		}
	}
	return v
}

// given is a history and what was told of it.
type given struct {
	History []api.Entry
	Told    []api.Told
}

// memoryCases are some that are true, and some that are not.
func memoryCases() []given {
	all := []given{{}, {shortStory(), nil}, {longStory(), honest(longStory())}, {longStory()[1:], honest(longStory())}, {listed(), []api.Told{called(listed(), 3), heard(listed(), 3), called(listed(), 4), heard(listed(), 4)}}}
	for _, g := range []given{all[2], all[4]} {
		for i, wrong := range twisted(g.Told) {
			if i%40 == 0 {
				all = append(all, given{g.History, wrong})
			}
		}
	}
	kept := story(opens(16), asks(16, 1, makes("/first", "some data"), gets("/first"), lists("/")), asks(16, 1), asks(16, 1), closes(16))
	all = append(all, given{kept, []api.Told{called(kept, 2), heard(kept, 2)}})
	for seed := range uint64(40) {
		c := chanceOf(seed, 194)
		h := c.someHistory(4 + c.IntN(40))
		x, _ := truthOf(h)
		list := c.telling(x, 8+c.IntN(60))
		all = append(all, given{h, list}, given{h, twistSome(c, list)}, given{twistSome(c, h), list})
	}
	return all
}

// TestHandedInStays: P19.6 and W6, neither a history nor what was told is changed, nor the room behind it.
func TestHandedInStays(t *testing.T) {
	t.Parallel()
	for _, g := range memoryCases() {
		var l loan
		lent := lends(&l, g)
		a := answersOf(lent.History, lent.Told)
		if scribble(a); !l.isAsItWas() {
			t.Errorf("P19.6: a call has changed %s", tell(g))
		}
	}
}

// TestHandedInIsNotKept: P19.6 and W6, whatever is written over what was handed in, what was answered stays as it was, and the next answers are the same.
func TestHandedInIsNotKept(t *testing.T) {
	t.Parallel()
	for _, g := range memoryCases() {
		want := answersAgain(g.History, g.Told)
		var l loan
		lent := lends(&l, g)
		got := answersOf(lent.History, lent.Told)
		if l.spoil(); !same(got, want) {
			t.Errorf("P19.6: what is answered to %s changes with what was handed in", tell(g))
		}
		if !same(answersOf(g.History, g.Told), want) {
			t.Errorf("P19.6: the next answers to %s change with what was handed in", tell(g))
		}
	}
}

// TestScribbledAnswers: P19.6, whatever is written over what was answered, in the room behind it too, is seen in no other answer.
func TestScribbledAnswers(t *testing.T) {
	t.Parallel()
	for _, g := range memoryCases() {
		want := answersAgain(g.History, g.Told)
		other := answersOf(g.History, g.Told)
		for range 2 {
			got := answersOf(g.History, g.Told)
			if !same(got, want) {
				t.Errorf("P19.6: behind scribbled answers %s is answered otherwise", tell(g))
			}
			scribble(got)
		}
		if !same(other, want) {
			t.Errorf("P19.6: an answer to %s was scribbled upon", tell(g))
		}
	}
}

// TestAnswersAreNew: W6, no two lists or texts of answers, and of what was handed in, have memory in common, spare room too.
func TestAnswersAreNew(t *testing.T) {
	for _, g := range memoryCases() {
		var found []stretch
		owned := 0
		own := func(all []stretch) {
			for _, s := range all {
				if s.end-s.begin > 1 { // Go itself has one text for each byte
					owned++
					s.owner = owned
					found = append(found, s)
				}
			}
		}
		var l loan
		lent := lends(&l, g)
		found = memory(lent.History) // all of one owner: 0
		for range 2 {
			replies, _ := audit.Model(lent.History)
			own(memory(replies))
		}
		if shared(found) {
			t.Fatalf("W6: answers to %s have memory in common", tell(g))
		}
	}
}

// TestNoSpareRoom: W6, behind the lists of an answer nothing stands.
func TestNoSpareRoom(t *testing.T) {
	for _, g := range memoryCases() {
		each(reflect.ValueOf(answersOf(g.History, g.Told)), func(v reflect.Value) {
			if v.Kind() != reflect.Slice {
				return
			}
			for i := v.Len(); i < v.Cap(); i++ {
				if !v.Slice(0, v.Cap()).Index(i).IsZero() {
					t.Errorf("W6: something stands behind a list that is answered to %s", tell(g))
				}
			}
		})
	}
}

// TestNothingIsKept: P19.6 and W2, what is answered does not depend on what was asked earlier, nor on what is asked at the same time, nor on the order of a map.
func TestNothingIsKept(t *testing.T) {
	t.Parallel()
	cases := memoryCases()
	var first []answers
	for _, g := range cases {
		first = append(first, answersOf(g.History, g.Told))
	}
	for range 8 {
		for i, g := range slices.Backward(cases) {
			if !same(answersOf(g.History, g.Told), first[i]) {
				t.Errorf("P19.6: another time %s is answered otherwise", tell(g))
			}
		}
	}
	done := make(chan string)
	for i, g := range cases {
		go func() {
			if same(answersOf(g.History, g.Told), first[i]) {
				done <- ""
			} else {
				done <- tell(g)
			}
		}()
	}
	for range cases {
		if what := <-done; what != "" {
			t.Errorf("P19.6: at one time with others %s is answered otherwise", what)
		}
	}
}
