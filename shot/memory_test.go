package shot_test

import (
	"bytes"
	"reflect"
	"slices"
	"strings"
	"sync"
	"testing"
	"unsafe"

	"herald/api"
	"herald/shot"
)

// stretch is where something lies in memory; of a list its spare room too.
type stretch struct {
	begin, end uintptr
	held       unsafe.Pointer // as long as a stretch is looked at, nothing else may come to lie there
}

func stretchAt(at unsafe.Pointer, size int) stretch {
	return stretch{uintptr(at), uintptr(at) + uintptr(size), at}
}

// memory has the stretches of all lists and texts of some values.
func memory(values ...any) []stretch {
	var all []stretch
	for _, v := range values {
		all = append(all, memoryOf(reflect.ValueOf(v))...)
	}
	return all
}

func memoryOf(v reflect.Value) []stretch {
	var all []stretch
	switch v.Kind() {
	case reflect.String:
		// A text of one byte that is made of bytes lies in a table of the language's own.
		if v.Len() < 2 {
			return nil
		}
		all = append(all, stretchAt(unsafe.Pointer(unsafe.StringData(v.String())), v.Len()))
	case reflect.Struct:
		for i := range v.NumField() {
			all = append(all, memoryOf(v.Field(i))...)
		}
	case reflect.Slice:
		all = append(all, stretchAt(v.UnsafePointer(), v.Cap()*int(v.Type().Elem().Size())))
		for i := range v.Len() {
			all = append(all, memoryOf(v.Index(i))...)
		}
	}
	return all
}

// anyMeet tells whether two of the stretches have a byte in common.
func anyMeet(all []stretch) bool {
	for i, one := range all {
		for _, other := range all[:i] {
			if one.begin < other.end && other.begin < one.end {
				return true
			}
		}
	}
	return false
}

// roomy is a list with texts of its own, and with room behind its end in which old elements stand.
func roomy[T any](list []T, own func(T) T) []T {
	var long []T
	for _, element := range slices.Concat(list, list) {
		long = append(long, own(element))
	}
	return long[:len(list)]
}

func ownShot(s api.Shot) api.Shot {
	s.Place = strings.Clone(s.Place)
	s.Nodes = roomy(s.Nodes, func(n api.Seen) api.Seen {
		return see(strings.Clone(n.Place), strings.Clone(n.Data), n.Version)
	})
	return s
}

func ownChanges(changes []api.Change) []api.Change {
	return roomy(changes, func(c api.Change) api.Change {
		c.Place, c.Data = strings.Clone(c.Place), strings.Clone(c.Data)
		return c
	})
}

// whole is a list with the room behind its end, copied.
func whole[T any](list []T) []T { return slices.Clone(list[:cap(list)]) }

// workFor is a shot, one of the same watch, and changes for the first.
func workFor(s api.Shot) (a, b api.Shot, changes []api.Change) {
	a, b = ownShot(s), ownShot(s)
	a.Stamp = 0
	if len(b.Nodes) > 1 {
		b.Nodes = b.Nodes[:len(b.Nodes)-1]
		b.Nodes[0].Version /= 2
	}
	last := a.Place
	if n := len(a.Nodes); n > 0 {
		last = a.Nodes[n-1].Place
	}
	for _, c := range []api.Change{set(last, "turned", 3), gone(last), made(last, "made", 4), set("/elsewhere", "x", 1)} {
		if _, code := shot.Fold(a, 1, append(slices.Clone(changes), c)); code == api.OK {
			changes = append(changes, c)
		}
	}
	return a, b, ownChanges(changes)
}

// TestHandedInStays: P5.10, shots, changes and bytes that are handed in are not changed, nor the room behind their ends.
func TestHandedInStays(t *testing.T) {
	for _, s := range samples() {
		a, b, changes := workFor(s)
		data := append(encoded(t, s), 0xaa, 0xaa, 0xaa)
		wantA, wantB, wantChanges, wantData := whole(a.Nodes), whole(b.Nodes), whole(changes), whole(data)
		for range 2 {
			shot.Fold(a, 1, changes)
			shot.Fold(b, b.Stamp, changes)
			for k := range changes {
				shot.Fold(b, most, changes[k:])
			}
			shot.Diff(a, b)
			shot.Diff(b, a)
			shot.Same(a, b)
			shot.Check(a)
			shot.Encode(a)
			for k := range data {
				shot.Decode(data[:k])
			}
		}
		if !slices.Equal(whole(a.Nodes), wantA) || !slices.Equal(whole(b.Nodes), wantB) || !slices.Equal(whole(changes), wantChanges) || !bytes.Equal(whole(data), wantData) {
			t.Errorf("P5.10: what was handed in for %s was changed", tell(s))
		}
	}
}

// TestAnswersAreNew: P5.10 and W6, no two answers, nor an answer and what was handed in or what a tree keeps, have memory in common, spare room and texts too.
func TestAnswersAreNew(t *testing.T) {
	for _, s := range samples() {
		a, b, changes := workFor(s)
		all := memory(a, b, changes)
		for range 2 {
			folded, code := shot.Fold(a, 1, changes)
			same, sameCode := shot.Fold(a, 2, nil)
			there, thereCode := shot.Diff(a, b)
			back, backCode := shot.Diff(b, a)
			data := encoded(t, a)
			decoded, decodedCode := shot.Decode(data)
			if code != api.OK || sameCode != api.OK || thereCode != api.OK || backCode != api.OK || decodedCode != api.OK {
				t.Fatalf("P5.10: %s: %d, %d, %d, %d, %d", tell(s), code, sameCode, thereCode, backCode, decodedCode)
			}
			all = append(all, memory(folded, same, there, back, data, decoded)...)
		}
		if anyMeet(all) {
			t.Errorf("P5.10: answers for %s have memory in common", tell(s))
		}
	}
	x := exampleTree(t)
	for _, kind := range []int{node, kids, subtree} {
		at := strings.Clone("/a")
		if anyMeet(memory(at, takes(t, x, 1, at, kind), takes(t, x, 1, at, kind), x.Nodes())) {
			t.Errorf("P5.10: shots that were taken have memory in common")
		}
	}
}

// TestNothingIsKept: P5.10, whatever is written into an answer or into what was handed in, the next answer is the same.
func TestNothingIsKept(t *testing.T) {
	x := exampleTree(t)
	_, _, third := exampleShots()
	for range 3 {
		s := takes(t, x, 5, "/a", subtree)
		if !same(s, third) {
			t.Fatalf("P5.10: Take = %v", s)
		}
		data := encoded(t, s)
		got, _ := shot.Decode(data)
		clear(data)
		if !same(got, third) {
			t.Errorf("P5.10: Decode kept its bytes: %v", got)
		}
		changes := list(made("/a/e", "e", 0), made("/a/f", "f", 0))
		folded, _ := shot.Fold(s, 6, changes)
		clear(s.Nodes[:cap(s.Nodes)])
		clear(changes)
		if !same(folded, shotOf(6, "/a", subtree, append(slices.Clone(third.Nodes), see("/a/e", "e", 0), see("/a/f", "f", 0))...)) {
			t.Errorf("P5.10: Fold kept what was handed in: %v", folded)
		}
	}
}

// TestAtOneTime: W2, calls with the same shots from several goroutines answer as one does.
func TestAtOneTime(t *testing.T) {
	full := greatest()[2]
	full.Stamp = 5
	less := full
	less.Nodes = full.Nodes[:9]
	want, _ := shot.Diff(full, less)
	var all sync.WaitGroup
	for range 4 {
		all.Go(func() {
			for range 5 {
				changes, _ := shot.Diff(full, less)
				folded, _ := shot.Fold(full, 6, changes)
				data, _ := shot.Encode(folded)
				decoded, code := shot.Decode(data)
				if code != api.OK || !slices.Equal(changes, want) || !shot.Same(decoded, less) {
					t.Errorf("W2: %v, %d", decoded, code)
				}
			}
		})
	}
	all.Wait()
}
