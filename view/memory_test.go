package view_test

import (
	"reflect"
	"slices"
	"testing"
	"unsafe"

	"herald/api"
	"herald/view"
)

// stretch is where something lies in memory; of a list its spare room too.
type stretch struct {
	begin, end uintptr
	held       unsafe.Pointer // as long as a stretch is looked at, nothing else may come to lie there
}

func stretchAt(at unsafe.Pointer, size int) stretch {
	return stretch{uintptr(at), uintptr(at) + uintptr(size), at}
}

// memory has the stretches of all lists and texts of some values, in the room behind lists too; of a service those of all that it keeps.
func memory(values ...any) []stretch {
	var all []stretch
	for _, v := range values {
		all = append(all, memoryOf(reflect.ValueOf(v))...)
	}
	return all
}

func memoryOf(v reflect.Value) []stretch {
	var all []stretch
	switch v.Kind() {
	case reflect.Pointer:
		return memoryOf(v.Elem())
	case reflect.String:
		all = append(all, stretchAt(unsafe.Pointer(unsafe.StringData(v.String())), v.Len()))
	case reflect.Struct:
		for i := range v.NumField() {
			all = append(all, memoryOf(v.Field(i))...)
		}
	case reflect.Slice:
		all = append(all, stretchAt(v.UnsafePointer(), v.Cap()*int(v.Type().Elem().Size())))
		v = v.Slice(0, v.Cap())
		fallthrough
	case reflect.Array:
		for i := range v.Len() {
			all = append(all, memoryOf(v.Index(i))...)
		}
	}
	return slices.DeleteFunc(all, func(s stretch) bool { return s.begin == s.end })
}

// anyMeet tells whether two of the stretches have a byte in common.
func anyMeet(all []stretch) bool {
	slices.SortFunc(all, func(a, b stretch) int { return int(a.begin) - int(b.begin) })
	for i := range max(0, len(all)-1) {
		if all[i].end > all[i+1].begin {
			return true
		}
	}
	return false
}

// scribble writes over views and notes, in the room behind them too.
func scribble(views []api.View, notes []api.Note) {
	for i := range views[:cap(views)] {
		views[:cap(views)][i] = viewOf(-7, -7, -7)
	}
	for i := range notes[:cap(notes)] {
		notes[:cap(notes)][i] = full(-7, -7)
	}
}

// TestAnswersAreNew: P12.6 and W6, no two answers, nor an answer and what was handed in or what the service keeps, have memory in common, spare room too.
func TestAnswersAreNew(t *testing.T) {
	for _, number := range []int{1, 2, 3, 4, 5, 8, 9, 100, 401} {
		s, _ := long(t, 3, number, number%2 == 0)
		all := memory(s)
		for range 3 {
			n := full(api.NoteAsk, number)
			all = append(all, memory(s.All(), s.Take(1, n), s.Take(1, asking()), s.All())...)
		}
		if anyMeet(all) {
			t.Errorf("P12.6: of a service with %d views answers have memory in common", number)
		}
	}
}

// TestHandedInIsNotAnswered: P12.6 and W6, of a note's lists and texts nothing is answered or kept.
func TestHandedInIsNotAnswered(t *testing.T) {
	for _, kind := range kinds() {
		for _, from := range []int{1, 2, 3, 101} {
			s, _ := long(t, 3, 3, false)
			n := full(kind, 3)
			answered := memory(s.Take(from, n), s, s.All())
			for _, handed := range memory(n) {
				if slices.ContainsFunc(answered, func(a stretch) bool { return a.begin < handed.end && handed.begin < a.end }) {
					t.Errorf("P12.6: of a note of kind %d something is kept or answered", kind)
				}
			}
			count(t, "what a service keeps beside its views", len(memory(s))-1, 0)
		}
	}
}

// TestNoSpareRoom: W6, behind the lists of an answer nothing stands.
func TestNoSpareRoom(t *testing.T) {
	for number := 1; number <= 20; number++ {
		s, _ := long(t, 3, number, true)
		all, notes := s.All(), s.Take(0, asking())
		for _, v := range all[len(all):cap(all)] {
			if v != (api.View{}) {
				t.Errorf("W6: behind All() stands %v", v)
			}
		}
		for _, n := range notes[len(notes):cap(notes)] {
			if !reflect.DeepEqual(n, api.Note{}) {
				t.Errorf("W6: behind Take() stands %s", tell(n))
			}
		}
	}
}

// TestHandedInStays: W6, a note that is handed in is not changed.
func TestHandedInStays(t *testing.T) {
	for _, kind := range kinds() {
		for _, s := range []*view.Service{nil, {}, made(t, 1), made(t, 3)} {
			n := full(kind, 1)
			scribble(nil, s.Take(1, n))
			if !reflect.DeepEqual(n, full(kind, 1)) {
				t.Errorf("W6: a note of kind %d became %s", kind, tell(n))
			}
		}
	}
}

// TestScribbledAnswers: P12.6, whatever a caller writes into what he was told, and into the room behind it, the service tells the same.
func TestScribbledAnswers(t *testing.T) {
	for seed := range uint64(100) {
		c := chanceOf(seed, 6)
		nodes := 1 + int(seed)%5
		s, g := made(t, nodes), againOf(nodes)
		for range 80 {
			scribble(s.All(), s.Take(c.IntN(4), full(api.NoteAsk, 1)))
			x := c.call(g)
			want, got := x.again(g), x.on(s)
			if !got.is(want) {
				t.Fatalf("P12.6: seed %d: behind scribbled answers %s %d %d = %s, want %s", seed, x.kind, x.a, x.b, tell(got), tell(want))
			}
			scribble(got.views, got.notes)
			if !g.isLike(s) {
				t.Fatalf("P12.6: seed %d: behind scribbled answers there are %s, want %s", seed, tell(s.All()), tell(g.views()))
			}
		}
	}
}

// TestAnswersStay: P12.6, what was answered stays as it was, whatever is called later.
func TestAnswersStay(t *testing.T) {
	s, views := long(t, 2, 5, true)
	all, notes := s.All(), s.Take(0, asking())
	for num := 6; num < 40; num++ {
		now := s.Now()
		is(t, "P12.2: Promote", s.Promote(now.Backup, now.Primary), api.OK)
		s.Settle(num, now.Backup)
		scribble(s.All(), s.Take(0, asking()))
	}
	if !slices.Equal(all, views) || !sameNotes(notes, told(views[4])) {
		t.Errorf("P12.6: answers became %s and %s", tell(all), tell(notes))
	}
}

// TestRefusedWritesNothing: P12.6 and W3, a refused call leaves what the service keeps where it is.
func TestRefusedWritesNothing(t *testing.T) {
	for _, isSettled := range []bool{false, true} {
		s, views := long(t, 3, 401, isSettled)
		before := memory(s)
		for _, a := range about(3) {
			for _, b := range about(3) {
				s.Promote(a, b)
				if a != 401 {
					s.Settle(a, b)
				}
			}
			s.Take(a, full(api.NoteSettled, 400))
		}
		if !slices.Equal(memory(s), before) {
			t.Error("P12.6: a refused call wrote into the service")
		}
		stands(t, s, isSettled, views...)
	}
}
