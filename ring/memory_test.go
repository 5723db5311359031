package ring_test

import (
	"reflect"
	"slices"
	"strings"
	"sync"
	"testing"
	"unsafe"

	"herald/api"
	"herald/ring"
)

// stretch is where something lies in memory; of a list its spare room too.
type stretch struct {
	begin, end uintptr
	held       unsafe.Pointer // as long as a stretch is looked at, nothing else may come to lie there
}

func stretchAt(at unsafe.Pointer, size int) stretch {
	return stretch{uintptr(at), uintptr(at) + uintptr(size), at}
}

// memory has the stretches of all lists and texts of some values; of a ring those of all that it keeps.
func memory(values ...any) []stretch {
	var all []stretch
	for _, v := range values {
		all = append(all, memoryOf(reflect.ValueOf(v))...)
	}
	return all
}

func memoryOf(v reflect.Value) []stretch {
	var all []stretch
	switch v.Kind() {
	case reflect.Pointer:
		return memoryOf(v.Elem())
	case reflect.String:
		all = append(all, stretchAt(unsafe.Pointer(unsafe.StringData(v.String())), v.Len()))
	case reflect.Struct:
		for i := range v.NumField() {
			all = append(all, memoryOf(v.Field(i))...)
		}
	case reflect.Slice:
		all = append(all, stretchAt(v.UnsafePointer(), v.Cap()*int(v.Type().Elem().Size())))
		fallthrough
	case reflect.Array:
		for i := range v.Len() {
			all = append(all, memoryOf(v.Index(i))...)
		}
	}
	return slices.DeleteFunc(all, func(s stretch) bool { return s.begin == s.end })
}

// anyMeet tells whether two of the stretches have a byte in common.
func anyMeet(all []stretch) bool {
	slices.SortFunc(all, func(a, b stretch) int { return int(a.begin) - int(b.begin) })
	for i := range max(0, len(all)-1) {
		if all[i].end > all[i+1].begin {
			return true
		}
	}
	return false
}

// roomy is an entry with texts of its own, and with room behind the end of its ops in which old ones stand.
func roomy(e api.Entry) api.Entry {
	var ops []api.Op
	for _, op := range slices.Concat(e.Ops, e.Ops) {
		op.Place, op.Data = strings.Clone(op.Place), strings.Clone(op.Data)
		ops = append(ops, op)
	}
	e.Ops = ops[:len(e.Ops)]
	return e
}

// whole is a list with the room behind its end, copied.
func whole[T any](list []T) []T { return slices.Clone(list[:cap(list)]) }

// TestAnswersAreNew: P6.9 and W6, no two answers, nor an answer and what was handed in or what the ring keeps, have memory in common, spare room and texts too.
func TestAnswersAreNew(t *testing.T) {
	for _, room := range []int{1, 3, api.MaxRing} {
		r := made(t, room, 0, 0)
		var all []stretch
		for stamp := 1; stamp <= room+room/2; stamp++ {
			e := roomy(rich(stamp, 1))
			is(t, "P6.2: Append", r.Append(e), api.OK)
			is(t, "P6.3: Hold", r.Hold(stamp), api.OK)
			all = append(all, memory(e, e.Ops[:cap(e.Ops)][len(e.Ops):])...)
		}
		// A list's spare room was told twice just now.
		slices.SortFunc(all, func(a, b stretch) int { return int(a.begin) - int(b.begin) })
		all = slices.CompactFunc(all, func(a, b stretch) bool { return b.end <= a.end })
		all = append(all, memory(r)...)
		floor, _ := r.Floor()
		for range 2 {
			list, code := r.After(floor, api.MaxRing)
			few, fewCode := r.After(floor+room/2, 2)
			last, lastCode := r.At(floor + room)
			if code != api.OK || fewCode != api.OK || lastCode != api.OK || len(list) != room || len(few) == 0 {
				t.Fatalf("P6.6, P6.7: %d, %d, %d", code, fewCode, lastCode)
			}
			all = append(all, memory(list, few, last, slices.Collect(r.All()))...)
		}
		if anyMeet(all) {
			t.Errorf("P6.9: answers of a ring of %d entries have memory in common", room)
		}
	}
}

// TestHandedInStays: P6.9, an entry's ops that are handed in are not changed, nor the room behind them, whether the entry is taken or not.
func TestHandedInStays(t *testing.T) {
	for _, e := range []api.Entry{rich(8, 2), rich(8, 1), rich(9, 2), rich(8, -1), odd(8, 2)[3]} {
		for _, r := range []*ring.Ring{nil, {}, filled(t, 2, 5, 2), filled(t, 3, 5, 2)} {
			own := roomy(e)
			want := whole(own.Ops)
			r.Append(own)
			r.Append(own)
			if !slices.Equal(whole(own.Ops), want) {
				t.Errorf("P6.9: Append made %s of %s", tell(whole(own.Ops)), tell(want))
			}
		}
	}
}

// TestNothingHandedInIsKept: P6.9, what a caller writes into his ops, and into the bytes of his texts, behind an Append does not reach the ring.
func TestNothingHandedInIsKept(t *testing.T) {
	r := made(t, 2, 0, 0)
	room := []byte("/place of a node")
	text := unsafe.String(unsafe.SliceData(room), len(room))
	e := api.Entry{Stamp: 1, Ops: []api.Op{{Kind: 1, Place: text, Data: text[3:]}, {Kind: 2, Data: text}}}
	want := roomy(e)
	is(t, "P6.2: Append", r.Append(e), api.OK)
	clear(room)
	clear(e.Ops)
	stands(t, r, 0, 0, want)
}

// TestEmptyOpsAreNotKept: P6.9 and W6, of a list without an op the room behind its end is not kept either, nor answered.
func TestEmptyOpsAreNotKept(t *testing.T) {
	r := made(t, 2, 0, 0)
	e := roomy(rich(1, 1))
	e.Ops = e.Ops[:0]
	is(t, "P6.2: Append", r.Append(e), api.OK)
	one, _ := r.At(1)
	list, _ := r.After(0, 1)
	if anyMeet(memory(e, r, one, list, slices.Collect(r.All()))) || len(one.Ops) != 0 {
		t.Errorf("P6.9: the room behind an empty list is kept: %s", tell(one))
	}
}

// TestScribbledAnswers: P6.9, whatever a caller writes into what he was told, the ring tells the same.
func TestScribbledAnswers(t *testing.T) {
	r, g := filled(t, 3, 0, 5), startAgain(3, 0, 2)
	for i := range 5 {
		g.holds(max(0, i-2))
		g.appends(rich(i+1, 2+i/3))
	}
	for range 3 {
		one, _ := r.At(4)
		clear(one.Ops[:cap(one.Ops)])
		list, _ := r.After(2, 3)
		for _, e := range list {
			clear(e.Ops[:cap(e.Ops)])
		}
		clear(list[:cap(list)])
		for e := range r.All() {
			clear(e.Ops[:cap(e.Ops)])
		}
		g.isLike(t, r)
	}
}

// TestSharedOpsPart: P6.9, entries that came with one list of ops do not share one in the ring, nor in an answer.
func TestSharedOpsPart(t *testing.T) {
	r := made(t, 2, 0, 0)
	ops := rich(2, 2).Ops
	for stamp := 1; stamp <= 2; stamp++ {
		is(t, "P6.2: Append", r.Append(api.Entry{Stamp: stamp, Ops: ops}), api.OK)
	}
	list, _ := r.After(0, 2)
	if anyMeet(memory(r, list)) {
		t.Errorf("P6.9: entries share ops: %s", tell(list))
	}
	list[0].Ops[0].Kind = 99
	if list[1].Ops[0].Kind == 99 || ops[0].Kind == 99 {
		t.Errorf("P6.9: entries share ops: %s", tell(list))
	}
}

// TestLetGo: what is cut, or falls out, is not held on to: the promises need none of it.
func TestLetGo(t *testing.T) {
	r := filled(t, 3, 0, 5)
	if got := len(memory(r)); got == 0 {
		t.Fatal("a ring with entries keeps nothing")
	}
	is(t, "P6.3: Hold", r.Hold(5), api.OK)
	for stamp := 6; stamp <= 8; stamp++ {
		is(t, "P6.2: a bare entry", r.Append(ent(stamp, 9)), api.OK)
	}
	if got := len(memory(r)); got != 0 {
		t.Errorf("what fell out is kept, %d lists and texts", got)
	}
	for count := 1; count <= 3; count++ {
		r := filled(t, 3, 7, count)
		is(t, "P6.4: Cut", r.Cut(7), api.OK)
		if got := len(memory(r)); got != 0 {
			t.Errorf("what was cut is kept, %d lists and texts", got)
		}
	}
}

// TestAtOneTime: W2, a ring that nobody turns may be read from several goroutines.
func TestAtOneTime(t *testing.T) {
	r := filled(t, 5, 0, 8)
	want := slices.Collect(r.All())
	var all sync.WaitGroup
	for range 4 {
		all.Go(func() {
			for range 20 {
				list, code := r.After(3, 64)
				if code != api.OK || !sameAll(list, want) || !sameAll(slices.Collect(r.All()), want) {
					t.Errorf("W2: %s, %d", tell(list), code)
				}
				r.At(5)
				r.Last()
			}
		})
	}
	all.Wait()
}
