package journal_test

import (
	"bytes"
	"reflect"
	"slices"
	"strings"
	"sync"
	"testing"
	"unsafe"

	"herald/api"
	"herald/journal"
)

// stretch is where something lies in memory; of a list its spare room too.
type stretch struct {
	begin, end uintptr
	held       unsafe.Pointer // as long as a stretch is looked at, nothing else may come to lie there
}

func stretchAt(at unsafe.Pointer, size int) stretch {
	return stretch{uintptr(at), uintptr(at) + uintptr(size), at}
}

// memory has the stretches of all lists and texts of some values.
func memory(values ...any) []stretch {
	var all []stretch
	for _, v := range values {
		all = append(all, memoryOf(reflect.ValueOf(v))...)
	}
	return all
}

func memoryOf(v reflect.Value) []stretch {
	var all []stretch
	switch v.Kind() {
	case reflect.String:
		all = append(all, stretchAt(unsafe.Pointer(unsafe.StringData(v.String())), v.Len()))
	case reflect.Struct:
		for i := range v.NumField() {
			all = append(all, memoryOf(v.Field(i))...)
		}
	case reflect.Slice:
		all = append(all, stretchAt(v.UnsafePointer(), v.Cap()*int(v.Type().Elem().Size())))
		for i := range v.Len() {
			all = append(all, memoryOf(v.Index(i))...)
		}
	}
	return slices.DeleteFunc(all, func(s stretch) bool { return s.begin == s.end })
}

// anyMeet tells whether two of the stretches have a byte in common.
func anyMeet(all []stretch) bool {
	slices.SortFunc(all, func(a, b stretch) int { return int(a.begin) - int(b.begin) })
	for i := range max(0, len(all)-1) {
		if all[i].end > all[i+1].begin {
			return true
		}
	}
	return false
}

// own is an entry with a list and texts of its own, and with room behind the end of its ops in which old ones stand.
func own(e api.Entry) api.Entry {
	var ops []api.Op
	for _, op := range slices.Concat(e.Ops, e.Ops) {
		op.Place, op.Data = strings.Clone(op.Place), strings.Clone(op.Data)
		ops = append(ops, op)
	}
	e.Ops = ops[:len(e.Ops)]
	return e
}

// whole is a list with the room behind its end, copied.
func whole[T any](list []T) []T { return slices.Clone(list[:cap(list)]) }

// roomy has the bytes, and room behind them in which something stands.
func roomy(data []byte) []byte {
	return append(slices.Clone(data), "and more of it"...)[:len(data)]
}

// rich are records with texts and lists.
func rich() []api.Record {
	return []api.Record{save(1, 1, "a state that is saved"), view(2, 1, 2), entry(ent(2, 1)), entry(ent(3, 2)), commit(3), save(2, 1, "another state"), reset(2, 6, 2, "a state that is reset"), entry(ent(7, 2)), entry(ent(8, 2)), commit(7)}
}

// TestAnswersAreNew: P7.9 and W6, no two answers, nor an answer and what was handed in, have memory in common, spare room and texts too.
func TestAnswersAreNew(t *testing.T) {
	data := disk(t, rich()...)
	all := memory(data)
	walk := journal.Walk(data)
	for range 2 {
		for _, r := range rich() {
			piece, _ := journal.Encode(1, r)
			more, _ := journal.Encode(1, r)
			all = append(all, memory(piece, more)...)
		}
		for _, r := range walk {
			all = append(all, memory(r)...)
		}
		for _, r := range journal.Walk(data) {
			all = append(all, memory(r)...)
		}
		for _, cut := range []int{len(data), len(data) - 1, 300} {
			saved, _, _ := journal.Recover(data[:cut])
			short, _, code := journal.Compact(saved)
			if code != api.OK || len(short) == 0 {
				t.Fatalf("P7.7: %d", code)
			}
			all = append(all, memory(saved, short)...)
		}
	}
	if anyMeet(all) {
		t.Error("P7.9: answers have memory in common")
	}
}

// TestHandedInStays: P7.9, what is handed in is not changed, nor the room behind it, whether it is refused or not.
func TestHandedInStays(t *testing.T) {
	good := disk(t, rich()...)
	for _, data := range [][]byte{good, good[:len(good)-1], good[1:], nil} {
		mine := roomy(data)
		want := whole(mine)
		for range journal.Walk(mine) {
		}
		journal.Recover(mine)
		if !bytes.Equal(whole(mine), want) {
			t.Errorf("P7.9: % x became % x", want, whole(mine))
		}
	}
	for _, e := range []api.Entry{ent(2, 1), ent(3, 1), ent(0, 1), ent(2, -1)} {
		mine := own(e)
		list := []api.Entry{mine, own(ent(3, 2)), own(ent(9, 9))}
		s := api.Saved{Stamp: 1, Commit: 1, Entries: list[:2]}
		wantOps, want := whole(mine.Ops), whole(list)
		journal.Encode(2, entry(mine))
		journal.Compact(s)
		if !slices.Equal(whole(mine.Ops), wantOps) || !slices.EqualFunc(whole(list), want, sameEntry) {
			t.Errorf("P7.9: %s became %s", tell(want), tell(list))
		}
	}
}

// TestWalkKeepsNothing: P7.9, whatever is written over the bytes behind the call, ahead of a range or while it goes on, Walk goes through those that it was given.
func TestWalkKeepsNothing(t *testing.T) {
	data := disk(t, rich()...)
	walk := journal.Walk(data)
	for i := range data {
		data[i] = 0xAA
	}
	var got []api.Record
	for _, r := range walk {
		got = append(got, r)
	}
	if !slices.EqualFunc(got, rich(), sameRecord) {
		t.Errorf("P7.9: behind another use of its bytes Walk hands on %s", tell(got))
	}
	data = disk(t, rich()...)
	count := 0
	for range journal.Walk(data) {
		count++
		clear(data)
	}
	if count != len(rich()) {
		t.Errorf("P7.9: Walk hands on %d of %d records, as its bytes are cleared on the way", count, len(rich()))
	}
}

// TestTextsAreNotKept: P7.9, what is answered does not change with the bytes of a text that was handed in.
func TestTextsAreNotKept(t *testing.T) {
	room := []byte("a state of some bytes")
	text := unsafe.String(unsafe.SliceData(room), len(room))
	piece, _ := journal.Encode(1, save(1, 1, text))
	short, _, _ := journal.Compact(api.Saved{Stamp: 1, Of: 1, State: text, Commit: 1})
	want := disk(t, save(1, 1, strings.Clone(text)))
	clear(room)
	if !bytes.Equal(piece, want) || !bytes.Equal(short, want) {
		t.Errorf("P7.9: % x, % x; want % x", piece, short, want)
	}
}

// TestScribbledRecords: P7.9, whatever a caller writes into a record that he was handed, a later range hands on the same.
func TestScribbledRecords(t *testing.T) {
	walk := journal.Walk(disk(t, rich()...))
	for range 3 {
		for number, r := range walk {
			if !sameRecord(r, rich()[number-1]) {
				t.Errorf("P7.9: %s, want %s", tell(r), tell(rich()[number-1]))
			}
			clear(r.Entry.Ops[:cap(r.Entry.Ops)])
		}
	}
}

// TestLetGo: of the entries that a save or a reset has left behind nothing is answered, not in the room behind the end either.
func TestLetGo(t *testing.T) {
	records := []api.Record{view(1, 1, 2)}
	for stamp := 1; stamp <= 40; stamp++ {
		records = append(records, entry(ent(stamp, 1)))
	}
	records = append(records, commit(40))
	for _, last := range []api.Record{save(20, 1, ""), save(39, 1, ""), save(40, 1, ""), reset(1, 40, 1, "")} {
		saved, _, _ := journal.Recover(disk(t, append(records[:len(records):len(records)], last)...))
		for _, e := range whole(saved.Entries)[len(saved.Entries):] {
			if !sameEntry(e, api.Entry{}) {
				t.Errorf("P7.9: %s stands behind the end", tell(e))
			}
		}
		if left := 40 - saved.Stamp; len(saved.Entries) != left || cap(saved.Entries) > 2*left+4 {
			t.Errorf("P7.3: %d entries in a room of %d, want %d", len(saved.Entries), cap(saved.Entries), left)
		}
	}
}

// TestOnlyWhatIsAskedFor: a range that stops at the first record does not read the others.
func TestOnlyWhatIsAskedFor(t *testing.T) {
	var records []api.Record
	for range 200 {
		records = append(records, entry(ent(3, 1)))
	}
	walk := journal.Walk(disk(t, records...))
	one := testing.AllocsPerRun(10, func() {
		for range walk {
			break
		}
	})
	all := testing.AllocsPerRun(10, func() {
		for range walk {
		}
	})
	if one*100 > all {
		t.Errorf("a range over one record takes %v pieces of memory, over 200 of them %v", one, all)
	}
}

// TestAtOneTime: W2, several goroutines may range over one Walk, and recover the same bytes.
func TestAtOneTime(t *testing.T) {
	data := disk(t, rich()...)
	walk := journal.Walk(data)
	want, n, size := journal.Recover(data)
	var all sync.WaitGroup
	for range 4 {
		all.Go(func() {
			for range 20 {
				for number, r := range walk {
					if !sameRecord(r, rich()[number-1]) {
						t.Errorf("W2: %s", tell(r))
					}
				}
				recovers(t, "W2", data, want, n, size)
			}
		})
	}
	all.Wait()
}
