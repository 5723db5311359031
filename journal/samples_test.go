package journal_test

import (
	"fmt"
	"hash/crc32"
	"math"
	"math/rand/v2"
	"slices"
	"strings"
	"testing"

	"herald/api"
	"herald/journal"
)

const most = api.MaxNumber

// ends are numbers at and around the ends of what a number may be, and of what an int can be.
func ends() []int {
	return []int{math.MinInt, math.MinInt + 1, -most - 1, -1, 0, 1, api.MaxPeers, api.MaxPeers + 1, most - 1, most, most + 1, 1 << 32, 1<<32 + 1, math.MaxInt - 1, math.MaxInt}
}

// ent is an entry that may be, with something in every field, which no other stamp or view has.
func ent(stamp, view int) api.Entry {
	if stamp%4 == 0 {
		return api.Entry{Stamp: stamp, View: view, Kind: api.EntryOpen + stamp/4%3, Session: stamp/2 + 1}
	}
	e := api.Entry{Stamp: stamp, View: view, Kind: api.EntryRequest, Session: view/2 + 1, Request: stamp}
	for i := range stamp % 4 {
		name := fmt.Sprintf("%d.%d.%d", stamp, view, i)
		e.Ops = append(e.Ops, api.Op{Kind: i, Place: "/place" + name, Data: "data" + name, Version: i - 1, Flags: view})
	}
	return e
}

// greatest is the entry with the most bytes.
func greatest(stamp, view int) api.Entry {
	long := strings.Repeat("\xff", api.MaxRaw)
	op := api.Op{Kind: most, Place: long, Data: long, Version: most, Flags: most}
	return api.Entry{Stamp: stamp, View: view, Kind: api.EntryRequest, Session: most, Request: most, Ops: []api.Op{op, op, op, op}}
}

func entry(e api.Entry) api.Record { return api.Record{Kind: api.RecordEntry, Entry: e} }

func view(num, primary, backup int) api.Record {
	return api.Record{Kind: api.RecordView, View: api.View{Num: num, Primary: primary, Backup: backup}}
}

func matched(num int) api.Record {
	return api.Record{Kind: api.RecordMatched, View: api.View{Num: num}}
}

func reset(num, stamp, of int, state string) api.Record {
	return api.Record{Kind: api.RecordReset, View: api.View{Num: num}, Stamp: stamp, Of: of, State: state}
}

func save(stamp, of int, state string) api.Record {
	return api.Record{Kind: api.RecordSave, Stamp: stamp, Of: of, State: state}
}

func commit(stamp int) api.Record { return api.Record{Kind: api.RecordCommit, Stamp: stamp} }

// everyKind has records of every kind that may be: plain ones, and those with the smallest and the greatest numbers and bodies.
func everyKind() []api.Record {
	long := strings.Repeat("\x00\xff", api.MaxState/2)
	return []api.Record{
		entry(ent(1, 1)), entry(ent(2, 0)), entry(ent(4, 9)), entry(ent(8, 1)), entry(ent(12, 1)), entry(greatest(most, most)), entry(api.Entry{Stamp: 1, Kind: api.EntryRequest, Session: 1, Request: 1}),
		view(1, 1, 0), view(1, 1, 2), view(300, 5, 4), view(most, 5, 0), view(most, 1, 5),
		matched(1), matched(127), matched(128), matched(most),
		reset(1, 0, 0, ""), reset(3, 9, 2, "z"), reset(most, most, most, long), reset(1, most, 0, "x"), reset(1, 0, most, "\x00"),
		save(0, 0, ""), save(9, 2, "z"), save(most, most, long), save(most, 0, ""), save(0, most, "\xff"), save(1, 1, long[1:]),
		commit(0), commit(1), commit(300), commit(most),
	}
}

// disk writes records, numbered from 1 on.
func disk(t *testing.T, records ...api.Record) []byte { return diskFrom(t, 1, records...) }

func diskFrom(t *testing.T, number int, records ...api.Record) []byte {
	t.Helper()
	var data []byte
	for i, r := range records {
		piece, code := journal.Encode(number+i, r)
		if code != api.OK {
			t.Fatalf("P7.1: Encode(%d, %s) says %d", number+i, tell(r), code)
		}
		data = append(data, piece...)
	}
	return data
}

// fours are the four bytes of a number.
func fours(v int) []byte { return []byte{byte(v >> 24), byte(v >> 16), byte(v >> 8), byte(v)} }

func crc(data []byte) []byte { return fours(int(crc32.ChecksumIEEE(data))) }

// packed puts anything as a body between a head and sums that are right.
func packed(kind byte, number int, body []byte) []byte {
	return packedAs([]byte{0x4A, 0x52, kind, 0}, number, len(body), body)
}

// packedAs is packed with other bytes in the head.
func packedAs(front []byte, number, size int, body []byte) []byte {
	head := slices.Concat(front, fours(number), fours(size))
	head = append(head, crc(head)...)
	all := slices.Concat(head, body)
	return append(all, crc(all)...)
}

// collect has what Walk hands on, and holds that the numbers are 1, 2, 3 and so on.
func collect(t *testing.T, data []byte) []api.Record {
	t.Helper()
	var all []api.Record
	for number, r := range journal.Walk(data) {
		all = append(all, r)
		if number != len(all) {
			t.Errorf("P7.2: the record %d has the number %d", len(all), number)
		}
	}
	return all
}

func sameEntry(a, b api.Entry) bool {
	return a.Stamp == b.Stamp && a.View == b.View && a.Kind == b.Kind && a.Session == b.Session && a.Request == b.Request && slices.Equal(a.Ops, b.Ops)
}

func sameRecord(a, b api.Record) bool {
	return a.Kind == b.Kind && sameEntry(a.Entry, b.Entry) && a.View == b.View && a.Stamp == b.Stamp && a.Of == b.Of && a.State == b.State
}

func sameSaved(a, b api.Saved) bool {
	return a.View == b.View && a.Matched == b.Matched && a.Stamp == b.Stamp && a.Of == b.Of && a.State == b.State && slices.EqualFunc(a.Entries, b.Entries, sameEntry) && a.Commit == b.Commit
}

// recovers holds what Recover tells.
func recovers(t *testing.T, what string, data []byte, want api.Saved, count, size int) {
	t.Helper()
	s, n, k := journal.Recover(data)
	if !sameSaved(s, want) || n != count || k != size {
		t.Errorf("%s: Recover = %s, %d, %d; want %s, %d, %d", what, tell(s), n, k, tell(want), count, size)
	}
}

// says holds that a journal of these records, of which all fit, says that.
func says(t *testing.T, what string, want api.Saved, records ...api.Record) {
	t.Helper()
	data := disk(t, records...)
	recovers(t, what, data, want, len(records), len(data))
}

// stops holds that a record does not fit behind the others, of which all fit; and that nothing behind it counts.
func stops(t *testing.T, what string, r api.Record, ahead ...api.Record) {
	t.Helper()
	data := disk(t, ahead...)
	want, n, size := journal.Recover(data)
	if n != len(ahead) || size != len(data) {
		t.Fatalf("%s: of %d records ahead %d fit", what, len(ahead), n)
	}
	more := slices.Concat(data, diskFrom(t, n+1, r, view(most, 5, 4)))
	recovers(t, what, more, want, n, size)
}

// tell is a value as a text that is not too long to be read.
func tell(v any) string {
	return fmt.Sprintf("%.500s", fmt.Sprintf("%+v", v))
}

// chance makes the same calls in every run.
type chance struct{ *rand.Rand }

func chanceOf(seed, kind uint64) chance { return chance{rand.New(rand.NewPCG(seed, kind))} }

func pick[T any](c chance, from ...T) T { return from[c.IntN(len(from))] }
