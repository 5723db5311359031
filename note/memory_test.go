package note_test

import (
	"bytes"
	"reflect"
	"slices"
	"testing"

	"herald/api"
	"herald/note"
)

// roomy puts every list of a value into a new one with room behind its end, in which old elements stand.
func roomy(v reflect.Value) {
	switch v.Kind() {
	case reflect.Struct:
		for i := range v.NumField() {
			roomy(v.Field(i))
		}
	case reflect.Slice:
		long := reflect.MakeSlice(v.Type(), 2*v.Len()+1, 2*v.Len()+1)
		for i := range v.Len() {
			roomy(v.Index(i))
			long.Index(i).Set(v.Index(i))
			long.Index(v.Len() + i).Set(v.Index(i))
		}
		v.Set(long.Slice(0, v.Len()))
	}
}

// image is a value with the room behind the ends of its lists.
func image(v reflect.Value) []any {
	switch v.Kind() {
	case reflect.Struct:
		var all []any
		for i := range v.NumField() {
			all = append(all, image(v.Field(i)))
		}
		return all
	case reflect.Slice:
		all := []any{v.Len(), v.Cap()}
		for i := range v.Cap() {
			all = append(all, image(v.Slice(0, v.Cap()).Index(i)))
		}
		return all
	}
	return []any{v.Interface()}
}

// stretchOf is the memory of a list, its spare room too.
type stretchOf struct{ begin, end uintptr }

// memory is where the lists of a value lie.
func memory(v reflect.Value) []stretchOf {
	var all []stretchOf
	switch v.Kind() {
	case reflect.Struct:
		for i := range v.NumField() {
			all = append(all, memory(v.Field(i))...)
		}
	case reflect.Slice:
		if size := uintptr(v.Cap()) * v.Type().Elem().Size(); size > 0 {
			all = append(all, stretchOf{v.Pointer(), v.Pointer() + size})
		}
		for i := range v.Len() {
			all = append(all, memory(v.Index(i))...)
		}
	}
	return all
}

func anyMeet(all []stretchOf) bool {
	slices.SortFunc(all, func(a, b stretchOf) int {
		if a.begin < b.begin {
			return -1
		}
		return 1
	})
	for i := range all {
		if i > 0 && all[i].begin < all[i-1].end {
			return true
		}
	}
	return false
}

// TestHandedInStays: P3.7, a note, an entry and bytes that are handed in are not changed, nor the room behind their lists.
func TestHandedInStays(t *testing.T) {
	for _, n := range slices.Concat(plain(), varied(), []api.Note{callOf(make([]api.Op, 9)...), {Kind: api.NoteAsk, Ops: []api.Op{someOp()}}}) {
		roomy(reflect.ValueOf(&n).Elem())
		before := image(reflect.ValueOf(n))
		note.Check(n)
		note.Encode(n)
		note.Message(1, 2, n)
		for _, e := range n.Entries {
			note.EncodeEntry(e)
		}
		if !reflect.DeepEqual(image(reflect.ValueOf(n)), before) {
			t.Errorf("P3.7: %.300v was changed", n)
		}
	}
	for _, n := range plain() {
		data := append(encoded(t, n), 0xaa, 0xaa, 0xaa)
		whole := bytes.Clone(data)
		for k := range data {
			note.Decode(data[:k])
			note.DecodeEntry(data[:k])
		}
		if !bytes.Equal(data, whole) {
			t.Errorf("P3.7: %x became %x", whole, data)
		}
	}
}

// TestAnswersAreNew: P3.7, no two lists of an answer, of two answers, and of what was handed in have memory in common, spare room too.
func TestAnswersAreNew(t *testing.T) {
	for _, n := range samples() {
		first, second := encoded(t, n), encoded(t, n)
		a, _ := note.Decode(first)
		b, _ := note.Decode(first)
		opened, _ := note.Open(messageOf(t, n))
		all := []reflect.Value{reflect.ValueOf(first), reflect.ValueOf(second), reflect.ValueOf(a), reflect.ValueOf(b), reflect.ValueOf(opened)}
		for _, e := range n.Entries {
			data, _ := note.EncodeEntry(e)
			x, _ := note.DecodeEntry(data)
			all = append(all, reflect.ValueOf(data), reflect.ValueOf(x))
		}
		var lists []stretchOf
		for _, v := range all {
			lists = append(lists, memory(v)...)
		}
		if anyMeet(append(lists, memory(reflect.ValueOf(n))...)) {
			t.Errorf("P3.7: lists have memory in common: %.300v", n)
		}
	}
}

// TestNothingIsKept: P3.7, a note that was read stays when its bytes are written over, and bytes stay when their note is.
func TestNothingIsKept(t *testing.T) {
	for i, n := range slices.Concat(plain(), varied()) {
		data := encoded(t, n)
		want := bytes.Clone(data)
		got, _ := note.Decode(data)
		clear(data)
		if !same(got, n) {
			t.Errorf("P3.7: %.300v became %.300v", n, got)
		}
		data = encoded(t, n)
		leaves(reflect.ValueOf(&n).Elem(), func(v reflect.Value) {
			if v.Kind() != reflect.Slice {
				v.SetZero()
			}
		})
		if !bytes.Equal(data, want) {
			t.Errorf("P3.7: note %d: %x became %x", i, want, data)
		}
	}
}
