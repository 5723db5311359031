package recipe_test

import (
	"bytes"
	"reflect"
	"slices"
	"strings"
	"testing"
	"unsafe"

	"herald/api"
	"herald/recipe"
)

// stretch is where something lies in memory; of a list its spare room too.
type stretch struct {
	begin, end uintptr
	owner      int
	held       unsafe.Pointer // as long as a stretch is looked at, nothing else may come to lie there
}

// memory has the stretches of all lists and texts of a value, in the room behind lists too; of a machine those of all that it keeps.
func memory(v any) []stretch {
	var all []stretch
	add := func(at unsafe.Pointer, size int) {
		if size > 0 {
			all = append(all, stretch{begin: uintptr(at), end: uintptr(at) + uintptr(size), held: at})
		}
	}
	each(reflect.ValueOf(v), func(v reflect.Value) {
		switch v.Kind() {
		case reflect.String:
			if v.Len() == 1 {
				break // Go itself has one text for each byte
			}
			add(unsafe.Pointer(unsafe.StringData(v.String())), v.Len())
		case reflect.Slice:
			add(v.UnsafePointer(), v.Cap()*int(v.Type().Elem().Size()))
		}
	})
	return all
}

// each goes through a value and all that it leads to, what is inside of it first.
func each(v reflect.Value, visit func(reflect.Value)) {
	switch v.Kind() {
	case reflect.Pointer, reflect.Interface:
		if v.IsNil() {
			return
		}
		each(v.Elem(), visit)
	case reflect.Struct:
		for i := range v.NumField() {
			each(v.Field(i), visit)
		}
	case reflect.Slice:
		whole := v.Slice(0, v.Cap())
		for i := range whole.Len() {
			each(whole.Index(i), visit)
		}
	}
	visit(v)
}

// shared tells whether two stretches of different owners have a byte in common.
func shared(all []stretch) bool {
	slices.SortFunc(all, func(a, b stretch) int { return int(a.begin) - int(b.begin) })
	end, owner := uintptr(0), -1
	for _, s := range all {
		if s.begin < end && s.owner != owner {
			return true
		}
		if s.end > end {
			end, owner = s.end, s.owner
		}
	}
	return false
}

// loan is memory that is handed in: texts whose bytes can be written over, lists with room behind their end in which something stands; and how all that was.
type loan struct {
	bytes, were [][]byte
	lists       []reflect.Value // whole, with their spare room
	listsWere   []reflect.Value
}

func (l *loan) text(s string) string {
	if s == "" {
		return ""
	}
	b := append([]byte(s), "what stands behind the end"...)
	l.bytes, l.were = append(l.bytes, b), append(l.were, slices.Clone(b))
	return unsafe.String(unsafe.SliceData(b), len(s))
}

// lend makes a value of lent memory out of another one.
func (l *loan) lend(v reflect.Value) reflect.Value {
	made := reflect.New(v.Type()).Elem()
	switch v.Kind() {
	case reflect.String:
		made.SetString(l.text(v.String()))
	case reflect.Struct:
		for i := range v.NumField() {
			made.Field(i).Set(l.lend(v.Field(i)))
		}
	case reflect.Slice:
		whole := reflect.MakeSlice(v.Type(), 0, v.Len()+2)
		for i := range v.Len() {
			whole = reflect.Append(whole, l.lend(v.Index(i)))
		}
		whole = reflect.Append(whole, garbage(v.Type().Elem()), garbage(v.Type().Elem()))
		l.lists = append(l.lists, whole)
		l.listsWere = append(l.listsWere, reflect.AppendSlice(reflect.MakeSlice(v.Type(), 0, whole.Len()), whole))
		made.Set(whole.Slice(0, v.Len()))
	default:
		made.Set(v)
	}
	return made
}

func lent[T any](l *loan, v T) T { return l.lend(reflect.ValueOf(v)).Interface().(T) }

func (l *loan) isAsItWas() bool {
	for i := range l.lists {
		if !same(l.lists[i].Interface(), l.listsWere[i].Interface()) {
			return false
		}
	}
	return slices.EqualFunc(l.bytes, l.were, bytes.Equal)
}

func (l *loan) spoil() {
	for _, b := range l.bytes {
		for i := range b {
			b[i] ^= 0xff
		}
	}
	for _, list := range l.lists {
		for i := range list.Len() {
			list.Index(i).Set(garbage(list.Type().Elem()))
		}
	}
}

// scribble writes over all lists of a value, and over the room behind them.
func scribble(v any) {
	each(reflect.ValueOf(v), func(v reflect.Value) {
		if v.Kind() != reflect.Slice {
			return
		}
		whole, wrong := v.Slice(0, v.Cap()), garbage(v.Type().Elem())
		for i := range whole.Len() {
			whole.Index(i).Set(wrong)
		}
	})
}

// garbage is a value that nobody would answer.
func garbage(of reflect.Type) reflect.Value {
	v := reflect.New(of).Elem()
	switch of.Kind() {
	case reflect.Int:
		v.SetInt(-7)
	case reflect.String:
		v.SetString(strings.Clone("/spoilt")) // each is a text of its own
	case reflect.Struct:
		for i := range v.NumField() {
			v.Field(i).Set(garbage(of.Field(i).Type))
		}
	}
	return v
}

// deed is a call of a machine.
type deed struct {
	kind string // begin, leave, hear
	told api.Told
}

func (d deed) of(m *recipe.Machine) []api.Wish {
	switch d.kind {
	case "begin":
		return m.Begin()
	case "leave":
		return m.Leave()
	}
	return m.Hear(d.told)
}

// career is the calls of a life, and what the machine answered, each as it was when it was made.
type career struct {
	job    api.Job
	deeds  []deed
	wishes [][]api.Wish
	sights []api.Held
}

// careers are those of all kinds: from each standing a few letters more.
func careers(t *testing.T) []career {
	t.Helper()
	var all []career
	signs := letters()
	names := []string{"call", "good 0", "good 1", "watch", "grant 2", "drop first", "make own", "marker 1", "gone", "begin", "leave", "code 46", "few", "drop own"}
	for seed := range uint64(300) {
		c := chanceOf(seed, 201)
		l := born(t, jobOf(pick(c, allKinds()...)))
		for range 40 {
			name := pick(c, names...)
			if (name == "leave" || name == "gone") && c.IntN(5) > 0 {
				continue
			}
			signs[name](l)
		}
		all = append(all, career{job: l.job, deeds: l.deeds})
	}
	for _, s := range standings() {
		l := s.live(t)
		signs["good 0"](l)
		all = append(all, career{job: l.job, deeds: l.deeds})
	}
	for i := range all {
		x := &all[i]
		m, _ := recipe.New(x.job)
		for _, d := range x.deeds {
			x.wishes, x.sights = append(x.wishes, d.of(m)), append(x.sights, m.Sight())
		}
	}
	return all
}

// lent is the deed with all that it hands in lent to it.
func (d deed) lent(l *loan) deed {
	d.told = lent(l, d.told)
	return d
}

// TestNothingIsShared: P20.12 and W6, whatever is written over what was handed in, and then over what was answered, the machine goes on as if nothing were.
func TestNothingIsShared(t *testing.T) {
	for _, x := range careers(t) {
		var l loan
		m, _ := recipe.New(lent(&l, x.job))
		l.spoil()
		for i, d := range x.deeds {
			var l loan
			wishes := d.lent(&l).of(m)
			l.spoil()
			held := m.Sight()
			if !same(wishes, x.wishes[i]) || !same(held, x.sights[i]) {
				t.Fatalf("P20.12: %+v: behind what was written over, call %d answers %s and shows %+v, want %s and %+v", x.job, i, tellWishes(wishes), held, tellWishes(x.wishes[i]), x.sights[i])
			}
			scribble(wishes)
			scribble(held)
		}
	}
}

// TestHandedInStays: P20.12 and W6, nothing that is handed in is changed, nor the room behind it.
func TestHandedInStays(t *testing.T) {
	for _, x := range careers(t) {
		var first loan
		m, _ := recipe.New(lent(&first, x.job))
		for i, d := range x.deeds {
			var l loan
			scribble(d.lent(&l).of(m))
			scribble(m.Sight())
			if !l.isAsItWas() || !first.isAsItWas() {
				t.Fatalf("P20.12: %+v: call %d changes what is handed in", x.job, i)
			}
		}
	}
}

// TestAnswersAreNew: P20.12 and W6, no two lists or texts of answers, of what was handed in and of what the machine keeps have memory in common, spare room too.
func TestAnswersAreNew(t *testing.T) {
	for _, x := range careers(t) {
		var all []stretch
		own := func(v any, isOne bool) {
			first := len(all) + 1
			for _, s := range memory(v) {
				s.owner = len(all) + 1
				if isOne {
					s.owner = first
				}
				all = append(all, s)
			}
		}
		var l loan
		job := lent(&l, x.job)
		own(job, true)
		m, _ := recipe.New(job)
		for _, d := range x.deeds {
			var l loan
			lentDeed := d.lent(&l)
			own(lentDeed.told, true)
			own(lentDeed.of(m), false)
			own(m.Sight(), false)
		}
		own(m, true)
		if shared(all) {
			t.Fatalf("P20.12: %+v: answers have memory in common", x.job)
		}
	}
}

// TestNoSpareRoom: W6, behind the lists of an answer nothing stands.
func TestNoSpareRoom(t *testing.T) {
	for _, x := range careers(t) {
		m, _ := recipe.New(x.job)
		for i, d := range x.deeds {
			for _, v := range []any{d.of(m), m.Sight()} {
				each(reflect.ValueOf(v), func(v reflect.Value) {
					if v.Kind() != reflect.Slice {
						return
					}
					for k := v.Len(); k < v.Cap(); k++ {
						if !v.Slice(0, v.Cap()).Index(k).IsZero() {
							t.Errorf("W6: %+v: something stands behind a list that call %d answers", x.job, i)
						}
					}
				})
			}
		}
	}
}

// TestTwoMachines: two machines with one job, called in turns, do not touch one another.
func TestTwoMachines(t *testing.T) {
	all := careers(t)
	for i, x := range all {
		y := all[(i+1)%len(all)]
		m, _ := recipe.New(x.job)
		n, _ := recipe.New(y.job)
		for k := range max(len(x.deeds), len(y.deeds)) {
			for _, turn := range []struct {
				of career
				m  *recipe.Machine
			}{{x, m}, {y, n}} {
				if k >= len(turn.of.deeds) {
					continue
				}
				if wishes := turn.of.deeds[k].of(turn.m); !same(wishes, turn.of.wishes[k]) || !same(turn.m.Sight(), turn.of.sights[k]) {
					t.Fatalf("two machines in turns: %+v: call %d answers %s, alone %s", turn.of.job, k, tellWishes(wishes), tellWishes(turn.of.wishes[k]))
				}
			}
		}
	}
}

// TestLetGo: what a machine keeps does not grow with what it has done; of pictures and requests that are over nothing is left.
func TestLetGo(t *testing.T) {
	size := func(m *recipe.Machine) int {
		all := 0
		for _, s := range memory(m) {
			all += int(s.end - s.begin)
		}
		return all
	}
	for _, kind := range []int{api.JobLock, api.JobElect, api.JobBarrier, api.JobTake} {
		l := born(t, jobOf(kind))
		fresh := size(l.m)
		for round := range 50 {
			waitingKnown(l)
			before := size(l.m)
			w := watchOf(kind)
			nodes := []api.Seen{{Place: w.Place, Data: strings.Repeat("d", 60)}}
			if w.Watch != api.WatchNode {
				nodes = append(nodes, bare(own(kind))...)
			}
			if w.Watch == api.WatchKids {
				nodes[0].Data = ""
			}
			s := shotOf(6, w.Place, w.Watch, nodes...)
			l.hear(granted(l.id, s))
			if kind == api.JobTake {
				l.asks(refusal(9, api.ErrFull))
			} else if size(l.m) < before {
				t.Errorf("a picture is not kept")
			}
			l.hear(told(api.ToldGone))
			if kept := size(l.m); kept > fresh+200 {
				t.Fatalf("kind %d: round %d: what is kept grows from %d to %d bytes", kind, round, fresh, kept)
			}
		}
	}
}
