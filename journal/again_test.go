package journal_test

import (
	"bytes"
	"encoding/binary"
	"maps"
	"slices"
	"testing"

	"herald/api"
	"herald/journal"
)

// This file reckons the chapter once more, by other means: numbers by encoding/binary, sums by hash/crc32, what a journal says in maps by stamps.

func inside(v, low, high int) bool { return low <= v && v <= high }

func inNumbers(all ...int) bool {
	return !slices.ContainsFunc(all, func(v int) bool { return !inside(v, 0, 2147483647) })
}

// againEntryMayBe is P3.2.
func againEntryMayBe(e api.Entry) bool {
	if !inNumbers(e.Stamp, e.View, e.Session, e.Request) || e.Stamp == 0 || e.Session == 0 || !inside(e.Kind, 1, 4) || len(e.Ops) > 4 {
		return false
	}
	for _, op := range e.Ops {
		if !inNumbers(op.Kind, op.Flags) || !inside(op.Version, -1, 2147483647) || len(op.Place) > 256 || len(op.Data) > 256 {
			return false
		}
	}
	if e.Kind == 1 {
		return e.Request >= 1
	}
	return e.Request == 0 && len(e.Ops) == 0
}

// againMayBe is the table of the records, and what stands below it.
func againMayBe(r api.Record) bool {
	var has []int
	var bare api.Record
	v := r.View
	switch r.Kind {
	case 1:
		bare.Entry = r.Entry
		if !againEntryMayBe(r.Entry) {
			return false
		}
	case 2:
		bare.View = v
		if !inside(v.Num, 1, 2147483647) || !inside(v.Primary, 1, 5) || !inside(v.Backup, 0, 5) || v.Primary == v.Backup {
			return false
		}
	case 3:
		bare.View.Num = v.Num
		has = []int{v.Num, v.Num - 1}
	case 4:
		bare.View.Num, bare.Stamp, bare.Of, bare.State = v.Num, r.Stamp, r.Of, r.State
		has = []int{v.Num, v.Num - 1, r.Stamp, r.Of}
	case 5:
		bare.Stamp, bare.Of, bare.State = r.Stamp, r.Of, r.State
		has = []int{r.Stamp, r.Of}
	case 6:
		bare.Stamp = r.Stamp
		has = []int{r.Stamp}
	default:
		return false
	}
	bare.Kind = r.Kind
	return sameRecord(bare, r) && inNumbers(has...) && len(r.State) <= 200000
}

func againNumbers(data []byte, all ...int) []byte {
	for _, v := range all {
		data = binary.AppendUvarint(data, uint64(v))
	}
	return data
}

func againText(data []byte, s string) []byte {
	return append(againNumbers(data, len(s)), s...)
}

func againEntry(e api.Entry) []byte {
	data := againNumbers(nil, e.Stamp, e.View, e.Kind, e.Session, e.Request, len(e.Ops))
	for _, op := range e.Ops {
		data = againText(againText(againNumbers(data, op.Kind), op.Place), op.Data)
		if op.Version == -1 {
			data = append(data, 0)
		} else {
			data = againNumbers(data, 1, op.Version)
		}
		data = againNumbers(data, op.Flags)
	}
	return data
}

func againBody(r api.Record) []byte {
	switch r.Kind {
	case 1:
		return againEntry(r.Entry)
	case 2:
		return againNumbers(nil, r.View.Num, r.View.Primary, r.View.Backup)
	case 3:
		return againNumbers(nil, r.View.Num)
	case 4:
		return againText(againNumbers(nil, r.View.Num, r.Stamp, r.Of), r.State)
	case 5:
		return againText(againNumbers(nil, r.Stamp, r.Of), r.State)
	}
	return againNumbers(nil, r.Stamp)
}

func againEncode(seq int, r api.Record) ([]byte, api.Errno) {
	if len(r.State) > 200000 {
		return nil, api.ErrLong
	}
	if !inside(seq, 1, 2147483647) || !againMayBe(r) {
		return nil, api.ErrRecord
	}
	return packed(byte(r.Kind), seq, againBody(r)), api.OK
}

// taker takes numbers and texts off a body, whatever their form; what is not there is 0 or empty.
type taker struct{ left []byte }

func (k *taker) number() int {
	v, n := binary.Uvarint(k.left)
	if n <= 0 || v > 1<<40 {
		k.left = nil
		return 0
	}
	k.left = k.left[n:]
	return int(v)
}

func (k *taker) text() string {
	n := min(k.number(), len(k.left))
	s := string(k.left[:n])
	k.left = k.left[n:]
	return s
}

func (k *taker) entry() api.Entry {
	e := api.Entry{Stamp: k.number(), View: k.number(), Kind: k.number(), Session: k.number(), Request: k.number()}
	for range min(k.number(), 5) {
		op := api.Op{Kind: k.number(), Place: k.text(), Data: k.text(), Version: -1}
		if k.number() != 0 {
			op.Version = k.number()
		}
		op.Flags = k.number()
		e.Ops = append(e.Ops, op)
	}
	return e
}

func (k *taker) record(kind int) api.Record {
	r := api.Record{Kind: kind}
	switch kind {
	case 1:
		r.Entry = k.entry()
	case 2:
		r.View = api.View{Num: k.number(), Primary: k.number(), Backup: k.number()}
	case 3:
		r.View.Num = k.number()
	case 4:
		r.View.Num, r.Stamp, r.Of, r.State = k.number(), k.number(), k.number(), k.text()
	case 5:
		r.Stamp, r.Of, r.State = k.number(), k.number(), k.text()
	case 6:
		r.Stamp = k.number()
	}
	return r
}

// againWalk is P7.2 by its words: it reads whatever it can, and a record is whole if the bytes are those that are written of it.
func againWalk(data []byte) (records []api.Record, sizes []int) {
	for {
		if len(data) < 20 {
			return records, sizes
		}
		n := int(binary.BigEndian.Uint32(data[8:]))
		if n > len(data)-20 {
			return records, sizes
		}
		r := (&taker{data[16 : 16+n]}).record(int(data[2]))
		piece, code := againEncode(len(records)+1, r)
		if code != api.OK || !bytes.HasPrefix(data, piece) {
			return records, sizes
		}
		records, sizes = append(records, r), append(sizes, len(piece))
		data = data[len(piece):]
	}
}

// againStory is what a journal says: all entries that stand, by their stamps; the views of the stamps that may be asked for, the Saved's own too.
type againStory struct {
	first         bool
	view          api.View
	matched       int
	floor, commit int
	state         string
	entries       map[int]api.Entry
	views         map[int]int
}

func startStory() *againStory {
	return &againStory{first: true, entries: map[int]api.Entry{}, views: map[int]int{0: 0}}
}

func (g *againStory) last() int { return slices.Max(slices.Collect(maps.Keys(g.views))) }

func (g *againStory) fits(r api.Record) bool {
	switch r.Kind {
	case 1:
		return r.Entry.Stamp-1 == g.last() && !(r.Entry.View < g.views[g.last()])
	case 2:
		return !(r.View.Num <= g.view.Num)
	case 3, 4:
		return r.View.Num == g.view.Num
	case 5:
		of, there := g.views[r.Stamp]
		return g.first || there && of == r.Of && !(r.Stamp > g.commit)
	}
	return inside(r.Stamp, g.commit+1, g.last())
}

// forget lets go of what is at a stamp or below it, and lays a new ground there.
func (g *againStory) forget(below int, r api.Record) {
	maps.DeleteFunc(g.entries, func(stamp int, _ api.Entry) bool { return stamp <= below })
	maps.DeleteFunc(g.views, func(stamp, _ int) bool { return stamp <= below })
	g.floor, g.state = r.Stamp, r.State
	g.views[r.Stamp] = r.Of
}

func (g *againStory) take(r api.Record) {
	switch r.Kind {
	case 1:
		g.entries[r.Entry.Stamp] = r.Entry
		g.views[r.Entry.Stamp] = r.Entry.View
	case 2:
		g.view = r.View
	case 3:
		g.matched = r.View.Num
	case 4:
		g.matched = r.View.Num
		g.forget(2147483647, r)
		g.commit = r.Stamp
	case 5:
		g.forget(r.Stamp, r)
		if g.commit < r.Stamp {
			g.commit = r.Stamp
		}
	case 6:
		g.commit = r.Stamp
	}
	g.first = false
}

func (g *againStory) saved() api.Saved {
	s := api.Saved{View: g.view, Matched: g.matched, Stamp: g.floor, Of: g.views[g.floor], State: g.state, Commit: g.commit}
	for _, stamp := range slices.Sorted(maps.Keys(g.entries)) {
		s.Entries = append(s.Entries, g.entries[stamp])
	}
	return s
}

func againRecover(data []byte) (api.Saved, int, int) {
	g := startStory()
	records, sizes := againWalk(data)
	count, size := 0, 0
	for i, r := range records {
		if !g.fits(r) {
			break
		}
		g.take(r)
		count, size = count+1, size+sizes[i]
	}
	return g.saved(), count, size
}

// againSavedMayBe is P7.6.
func againSavedMayBe(s api.Saved) bool {
	none := s.View == (api.View{}) && s.Matched == 0
	some := againMayBe(api.Record{Kind: 2, View: s.View}) && inside(s.Matched, 0, s.View.Num)
	if !none && !some || !inNumbers(s.Stamp, s.Of) || len(s.State) > 200000 {
		return false
	}
	for i, e := range s.Entries {
		least := s.Of
		if i > 0 {
			least = s.Entries[i-1].View
		}
		if !againEntryMayBe(e) || e.Stamp != s.Stamp+i+1 || e.View < least {
			return false
		}
	}
	return inside(s.Commit, s.Stamp, s.Stamp+len(s.Entries))
}

// againRecords is the list of P7.7, line by line.
func againRecords(s api.Saved) []api.Record {
	var l []api.Record
	if !(s.Stamp == 0 && s.Of == 0 && s.State == "") {
		l = append(l, save(s.Stamp, s.Of, s.State))
	}
	if s.Matched > 0 && s.Matched < s.View.Num {
		l = append(l, view(s.Matched, s.View.Primary, s.View.Backup), matched(s.Matched))
	}
	if s.View != (api.View{}) {
		l = append(l, view(s.View.Num, s.View.Primary, s.View.Backup))
		if s.Matched > 0 && s.Matched == s.View.Num {
			l = append(l, matched(s.Matched))
		}
	}
	for _, e := range s.Entries {
		l = append(l, entry(e))
	}
	if s.Commit > s.Stamp {
		l = append(l, commit(s.Commit))
	}
	return l
}

func againCompact(s api.Saved) ([]byte, int, api.Errno) {
	if len(s.State) > 200000 {
		return nil, 0, api.ErrLong
	}
	if !againSavedMayBe(s) {
		return nil, 0, api.ErrArg
	}
	var data []byte
	l := againRecords(s)
	for i, r := range l {
		data = append(data, packed(byte(r.Kind), i+1, againBody(r))...)
	}
	return data, len(l), api.OK
}

// likeAgain holds Walk and Recover against the second reckoning.
func likeAgain(t *testing.T, what string, data []byte) {
	t.Helper()
	records, _ := againWalk(data)
	if got := collect(t, data); !slices.EqualFunc(got, records, sameRecord) {
		t.Errorf("P7.2: %s: Walk hands on %d records, want %d: %s, want %s", what, len(got), len(records), tell(got), tell(records))
	}
	saved, count, size := againRecover(data)
	recovers(t, "P7.3: "+what, data, saved, count, size)
}

// compactsAgain holds Compact against the second reckoning, and P7.8 of what it answers.
func compactsAgain(t *testing.T, what string, s api.Saved) {
	t.Helper()
	data, n, code := journal.Compact(s)
	want, count, wantCode := againCompact(s)
	if !bytes.Equal(data, want) || n != count || code != wantCode {
		t.Errorf("P7.7: %s: Compact(%s) = %d bytes, %d, %d; want %d, %d, %d", what, tell(s), len(data), n, code, len(want), count, wantCode)
	}
	if code == api.OK {
		recovers(t, "P7.8: "+what, data, s, n, len(data))
	}
}
