package trie_test

import (
	"cmp"
	"reflect"
	"slices"
	"strings"
	"sync"
	"testing"
	"unsafe"

	"herald/api"
	"herald/trie"
)

// stretch is where something lies in memory; of a list its spare room too.
type stretch struct {
	begin, end uintptr
	held       unsafe.Pointer // as long as a stretch is looked at, nothing else may come to lie there
}

func stretchAt(at unsafe.Pointer, size int) stretch {
	return stretch{uintptr(at), uintptr(at) + uintptr(size), at}
}

// memory has the stretches of all lists and texts of some values, and of what tries keep.
func memory(values ...any) []stretch {
	var all []stretch
	for _, v := range values {
		all = append(all, memoryOf(reflect.ValueOf(v))...)
	}
	return all
}

func memoryOf(v reflect.Value) []stretch {
	var all []stretch
	each(v, func(v reflect.Value) {
		// Go itself has one place for all texts of the same one byte.
		if v.Kind() == reflect.String && v.Len() > 1 {
			all = append(all, stretchAt(unsafe.Pointer(unsafe.StringData(v.String())), v.Len()))
		}
		if v.Kind() == reflect.Slice && v.Cap() > 0 {
			all = append(all, stretchAt(v.UnsafePointer(), v.Cap()*int(v.Type().Elem().Size())))
		}
	})
	return all
}

// each goes through a value and all that it leads to, in the room behind lists too.
func each(v reflect.Value, visit func(reflect.Value)) {
	visit(v)
	switch v.Kind() {
	case reflect.Pointer:
		if !v.IsNil() {
			each(v.Elem(), visit)
		}
	case reflect.Struct:
		for i := range v.NumField() {
			each(v.Field(i), visit)
		}
	case reflect.Map:
		for entries := v.MapRange(); entries.Next(); {
			each(entries.Key(), visit)
			each(entries.Value(), visit)
		}
	case reflect.Slice:
		for i := range v.Cap() {
			each(v.Slice(0, v.Cap()).Index(i), visit)
		}
	}
}

// meet tells whether two stretches, one of each list, have a byte in common.
func meet(some, others []stretch) bool {
	for _, a := range some {
		if slices.ContainsFunc(others, func(b stretch) bool { return a.begin < b.end && b.begin < a.end }) {
			return true
		}
	}
	return false
}

// anyMeet tells whether two of the lists have a byte in common, or two stretches within one of those behind the first.
func anyMeet(kept []stretch, answers ...[]stretch) bool {
	for i, one := range answers {
		for j := range one {
			if meet(one[j:j+1], one[j+1:]) {
				return true
			}
		}
		if meet(one, kept) || slices.ContainsFunc(answers[i+1:], func(other []stretch) bool { return meet(one, other) }) {
			return true
		}
	}
	return false
}

// fresh is a watch whose place is a text of its own.
func fresh(r row) row {
	r.watch.Place = strings.Clone(r.watch.Place)
	return r
}

// sharing has watches of several sessions at shared and at long places.
func sharing() []row {
	var all []row
	for session := 1; session <= 5; session++ {
		all = append(all, watch(session, 1, "/shared/place", 3, 0), watch(session, 2, "/shared/place", 2, 0), watch(session, 3, "/shared", 3, 0), watch(session, 4, deepest(), 1, 0))
	}
	return all
}

// TestAnswersAreNew: P9.7 and W6, no two answers, nor an answer and what was handed in or what the trie keeps, have memory in common, spare room and texts too.
func TestAnswersAreNew(t *testing.T) {
	x := trie.New()
	var given []api.Watch
	for _, r := range sharing() {
		r = fresh(r)
		given = append(given, r.watch)
		adds(t, x, r)
	}
	changed := set(strings.Clone("/shared/place/x"))
	var answers [][]stretch
	for range 3 {
		found := x.Match(1, changed)
		if len(found) != 10 {
			t.Fatalf("P9.3: Match = %v", found)
		}
		answers = append(answers, memory(found))
		for session := 1; session <= 5; session++ {
			answers = append(answers, memory(x.Of(session)))
		}
		walk := x.Walk()
		for range 2 {
			for at := range walk {
				answers = append(answers, memory(at))
			}
		}
	}
	if anyMeet(memory(x), append(answers, memory(given, changed))...) {
		t.Error("P9.7: answers have memory in common")
	}
}

// TestNothingHandedInIsKept: P9.7 and W6, what a caller writes into the bytes of his texts behind a call does not reach the trie.
func TestNothingHandedInIsKept(t *testing.T) {
	for _, r := range append(sharing(), chapterRows()...) {
		room := []byte(r.watch.Place)
		text := unsafe.String(unsafe.SliceData(room), len(room))
		x := trie.New()
		is(t, "P9.1: Add", x.Add(r.session, api.Watch{Id: r.watch.Id, Place: text, Kind: r.watch.Kind, From: r.watch.From}), api.OK)
		found := x.Match(most, made(text))
		copy(room, strings.Repeat("#", len(room)))
		(&again{rows: []row{r}}).isLike(t, x)
		if !slices.Equal(found, []api.Tag{r.tag()}) {
			t.Errorf("P9.3: Match = %v", found)
		}
		is(t, "P9.2: Drop", x.Drop(r.session, r.watch.Id), api.OK)
		count(t, "P9.5: Size", x.Size(), 1)
	}
}

// TestScribbledAnswers: P9.7, whatever a caller writes into what he was told, and into the room behind it, the trie tells the same.
func TestScribbledAnswers(t *testing.T) {
	g := &again{rows: append(sharing(), watch(6, 1, "/", 3, 0))}
	x := holding(t, g.rows...)
	for range 3 {
		for session := range 7 {
			own := x.Of(session)
			own = own[:cap(own)]
			for i := range own {
				own[i] = api.Watch{Id: 77, Place: "/written", Kind: 3, From: most}
			}
		}
		for _, at := range g.changed() {
			found := x.Match(most, made(at))
			found = found[:cap(found)]
			for i := range found {
				found[i] = api.Tag{Session: 77, Id: 77}
			}
		}
		g.isLike(t, x)
	}
}

// TestAnswersStay: P9.7, what was answered stays as it was, whatever is called later.
func TestAnswersStay(t *testing.T) {
	for name, turn := range turns() {
		x := holding(t, spread()...)
		own, found := x.Of(1), x.Match(9, made("/a/b/c"))
		wasOwn, wasFound := slices.Clone(own), slices.Clone(found)
		if len(own) < 2 || len(found) < 2 {
			t.Fatalf("P9.3, P9.4: %v, %v", own, found)
		}
		turn(x)
		turn(x)
		if !slices.Equal(own, wasOwn) || !slices.Equal(found, wasFound) {
			t.Errorf("P9.7: %s: answers became %v and %v", name, own, found)
		}
	}
}

// TestLetGo: what is dropped or forgotten is not held on to: the promises need none of it.
func TestLetGo(t *testing.T) {
	few := []row{watch(1, 1, "/shared", 3, 0), watch(9, 1, "/a/b", 3, 0)}
	small := holding(t, few...)
	for _, byDrop := range []bool{true, false} {
		x := holding(t, few...)
		for _, r := range sharing() {
			r.session += 10
			adds(t, x, r)
		}
		for _, r := range sharing() {
			if byDrop {
				is(t, "P9.2: Drop", x.Drop(r.session+10, r.watch.Id), api.OK)
			} else {
				x.Forget(r.session + 10)
			}
		}
		if got, want := kept(x), kept(small); got != want {
			t.Errorf("what is gone is kept: %d texts and sessions, want %d", got, want)
		}
	}
	for name, x := range empties(t) {
		count(t, "what "+name+" keeps", kept(x), 0)
	}
}

// kept counts the texts and what stands in the maps of a trie.
func kept(x *trie.Trie) int {
	all := 0
	each(reflect.ValueOf(x), func(v reflect.Value) {
		if v.Kind() == reflect.String || v.Kind() == reflect.Map {
			all += min(v.Len(), 1)
		}
		if v.Kind() == reflect.Map {
			all += v.Len()
		}
	})
	return all
}

// TestAskingWritesNothing: W2, who asks writes nowhere in the trie, not even behind the end of a list: several may ask at one time.
func TestAskingWritesNothing(t *testing.T) {
	for name, x := range map[string]*trie.Trie{"a trie with watches": holding(t, sharing()...), "a zero trie": {}} {
		before := inOrder(memory(x))
		x.Match(1, made("/shared/place/x"))
		x.Match(0, set("/shared/other"))
		x.Of(1)
		x.Of(9)
		x.Size()
		walked(x)
		x.Drop(9, 9)
		x.Forget(9)
		x.Add(1, api.Watch{Id: 5, Place: "/new/place", Kind: 4})
		if !slices.Equal(inOrder(memory(x)), before) {
			t.Errorf("W2: %s was written into", name)
		}
	}
}

func inOrder(all []stretch) []stretch {
	slices.SortFunc(all, func(a, b stretch) int { return cmp.Or(cmp.Compare(a.begin, b.begin), cmp.Compare(a.end, b.end)) })
	return all
}

// TestAtOneTime: W2, a trie that nobody turns may be asked from several goroutines: the hub's workers do.
func TestAtOneTime(t *testing.T) {
	for name, x := range map[string]*trie.Trie{"a trie with watches": holding(t, spread()...), "a zero trie": {}, "a nil trie": nil} {
		want, found, own, size := walked(x), x.Match(9, made("/a/b/c")), x.Of(1), x.Size()
		var all sync.WaitGroup
		for range 8 {
			all.Go(func() {
				for range 50 {
					if !slices.Equal(walked(x), want) || !slices.Equal(x.Match(9, made("/a/b/c")), found) || !slices.Equal(x.Of(1), own) || x.Size() != size {
						t.Errorf("W2: %s answers otherwise at one time", name)
					}
				}
			})
		}
		all.Wait()
	}
}
