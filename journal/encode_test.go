package journal_test

import (
	"bytes"
	"encoding/hex"
	"math"
	"slices"
	"strings"
	"testing"

	"herald/api"
	"herald/journal"
)

// TestBodies: P7.1, the bytes of every kind, as the tables say them.
func TestBodies(t *testing.T) {
	for _, c := range []struct {
		r    api.Record
		kind byte
		body string
	}{
		{commit(300), 6, "ac02"},
		{commit(0), 6, "00"},
		{commit(most), 6, "ffffffff07"},
		{view(1, 1, 2), 2, "010102"},
		{view(300, 5, 0), 2, "ac020500"},
		{matched(1), 3, "01"},
		{matched(128), 3, "8001"},
		{reset(3, 9, 2, "z"), 4, "030902017a"},
		{reset(1, 0, 0, ""), 4, "01000000"},
		{save(9, 2, "z"), 5, "0902017a"},
		{save(0, 0, ""), 5, "000000"},
		{save(300, 128, "\x00\xff"), 5, "ac0280010200ff"},
		{entry(api.Entry{Stamp: 1, View: 1, Kind: api.EntryOpen, Session: 5}), 1, "010102050000"},
		{entry(api.Entry{Stamp: 9, View: 0, Kind: api.EntryRequest, Session: 1, Request: 300, Ops: []api.Op{{Kind: 2, Place: "/a", Data: "x", Version: -1}, {Version: 7, Flags: 1}}}), 1, "09000101ac0202" + "02022f6101780000" + "000000010701"},
	} {
		body, _ := hex.DecodeString(c.body)
		for _, seq := range []int{1, 2, 255, 256, 65535, 1 << 24, most - 1, most} {
			got, code := journal.Encode(seq, c.r)
			if want := packed(c.kind, seq, body); !bytes.Equal(got, want) || code != api.OK {
				t.Errorf("P7.1: Encode(%d, %s) = % x, %d; want % x", seq, tell(c.r), got, code, want)
			}
		}
	}
}

// TestExampleBytes: P7.1, the chapter's example with its sums.
func TestExampleBytes(t *testing.T) {
	got, code := journal.Encode(1, commit(300))
	if len(got) != 22 || code != api.OK || hex.EncodeToString(got[:12]) != "4a5206000000000100000002" || hex.EncodeToString(got[16:18]) != "ac02" {
		t.Fatalf("P7.1: % x, %d", got, code)
	}
	if !bytes.Equal(got[12:16], crc(got[:12])) || !bytes.Equal(got[18:], crc(got[:18])) {
		t.Errorf("P7.1: the sums of % x", got)
	}
}

// TestEveryKind: P7.1, all that may be is written, in n + 20 bytes, as the second reckoning writes it.
func TestEveryKind(t *testing.T) {
	for _, r := range everyKind() {
		got, code := journal.Encode(7, r)
		want, _ := againEncode(7, r)
		if code != api.OK || !bytes.Equal(got, want) || len(got) != len(againBody(r))+20 {
			t.Errorf("P7.1: Encode(7, %s) has %d bytes, want %d; %d", tell(r), len(got), len(want), code)
		}
	}
}

// refused holds that a record is refused, and that nothing stands beside the error (W3).
func refused(t *testing.T, seq int, r api.Record, want api.Errno) {
	t.Helper()
	got, code := journal.Encode(seq, r)
	if code != want || len(got) != 0 {
		t.Errorf("P7.1: Encode(%d, %s) = %d bytes, %d; want %d", seq, tell(r), len(got), code, want)
	}
}

// TestNumbersOfRecords: P7.1, seq is from 1 to MaxNumber.
func TestNumbersOfRecords(t *testing.T) {
	for _, r := range everyKind() {
		for _, seq := range ends() {
			if !inside(seq, 1, most) {
				refused(t, seq, r, api.ErrRecord)
			}
		}
	}
}

// TestRefused: P7.1, records that may not be.
func TestRefused(t *testing.T) {
	one := ent(1, 1)
	five := ent(1, 1)
	five.Ops = make([]api.Op, api.MaxOps+1)
	long := ent(1, 1)
	long.Ops = []api.Op{{Data: strings.Repeat("x", api.MaxRaw+1)}}
	open := api.Entry{Stamp: 1, View: 1, Kind: api.EntryOpen, Session: 1, Request: 1}
	for _, r := range []api.Record{
		{}, {Kind: -1}, {Kind: 7}, {Kind: 256 + api.RecordCommit}, {Kind: math.MinInt}, {Kind: math.MaxInt}, {Kind: 1 << 32},
		entry(api.Entry{}), entry(ent(0, 1)), entry(ent(most+1, 1)), entry(ent(1, -1)), entry(ent(1, most+1)), entry(five), entry(long), entry(open),
		view(0, 1, 2), view(-1, 1, 2), view(most+1, 1, 2), view(1, 0, 2), view(1, -1, 2), view(1, 6, 2), view(1, 5, 6), view(1, 1, -1), view(1, 2, 2), view(0, 0, 0),
		matched(0), matched(-1), matched(most + 1),
		reset(0, 1, 1, "s"), reset(-1, 1, 1, "s"), reset(most+1, 1, 1, "s"), reset(1, -1, 1, "s"), reset(1, most+1, 1, "s"), reset(1, 1, -1, "s"), reset(1, 1, most+1, "s"),
		save(-1, 1, "s"), save(most+1, 1, "s"), save(1, -1, "s"), save(1, most+1, "s"),
		commit(-1), commit(most + 1),
		{Kind: api.RecordCommit, Of: 1}, {Kind: api.RecordView, View: api.View{Num: 1, Primary: 1}, Entry: one},
	} {
		refused(t, 1, r, api.ErrRecord)
	}
}

// more are records with one field more than what a record of that kind has at most.
func more(r api.Record) []api.Record {
	turns := []func(*api.Record){
		func(r *api.Record) { r.Entry.Stamp++ }, func(r *api.Record) { r.Entry.View++ }, func(r *api.Record) { r.Entry.Kind++ }, func(r *api.Record) { r.Entry.Session++ }, func(r *api.Record) { r.Entry.Request++ },
		func(r *api.Record) { r.Entry.Ops = append(slices.Clone(r.Entry.Ops), api.Op{}) },
		func(r *api.Record) { r.View.Num++ }, func(r *api.Record) { r.View.Primary++ }, func(r *api.Record) { r.View.Backup++ }, func(r *api.Record) { r.View.Backup-- },
		func(r *api.Record) { r.Stamp++ }, func(r *api.Record) { r.Stamp-- }, func(r *api.Record) { r.Of++ }, func(r *api.Record) { r.State += "s" },
	}
	var all []api.Record
	for _, turn := range turns {
		next := r
		turn(&next)
		all = append(all, next)
	}
	return all
}

// TestOneMore: P7.1, of records of every kind with one more in one field: what the kind does not have must be zero, what it has may be up to its end.
func TestOneMore(t *testing.T) {
	for _, r := range everyKind() {
		for _, next := range more(r) {
			got, code := journal.Encode(1, next)
			want, wantCode := againEncode(1, next)
			if code != wantCode || !bytes.Equal(got, want) {
				t.Errorf("P7.1: Encode(1, %s) = %d bytes, %d; want %d, %d", tell(next), len(got), code, len(want), wantCode)
			}
		}
	}
}

// TestEveryField: P7.1, every field at the ends of numbers, in records of every kind.
func TestEveryField(t *testing.T) {
	for _, base := range []api.Record{entry(ent(2, 1)), entry(ent(4, 1)), view(3, 1, 2), matched(3), reset(3, 2, 1, "s"), save(2, 1, "s"), commit(2), {}, {Kind: 7}} {
		for _, v := range ends() {
			for i := range 11 {
				r := base
				*[]*int{&r.Kind, &r.Entry.Stamp, &r.Entry.View, &r.Entry.Kind, &r.Entry.Session, &r.Entry.Request, &r.View.Num, &r.View.Primary, &r.View.Backup, &r.Stamp, &r.Of}[i] = v
				got, code := journal.Encode(5, r)
				want, wantCode := againEncode(5, r)
				if code != wantCode || !bytes.Equal(got, want) {
					t.Errorf("P7.1: Encode(5, %s) = % x, %d; want % x, %d", tell(r), got, code, want, wantCode)
				}
			}
		}
	}
}

// TestEmptyOpsAreZero: P7.1 and W5, an empty list of ops is none.
func TestEmptyOpsAreZero(t *testing.T) {
	r := commit(3)
	r.Entry.Ops = []api.Op{}
	if got, code := journal.Encode(1, r); code != api.OK || !bytes.Equal(got, disk(t, commit(3))) {
		t.Errorf("P7.1: % x, %d", got, code)
	}
	r.Entry.Ops = make([]api.Op, 1)
	refused(t, 1, r, api.ErrRecord)
}

// TestLongStates: P7.1, a state that is too long is found first, whatever else is wrong.
func TestLongStates(t *testing.T) {
	full := strings.Repeat("s", api.MaxState)
	for kind := -1; kind <= 8; kind++ {
		for _, seq := range []int{math.MinInt, 0, 1, most, most + 1} {
			refused(t, seq, api.Record{Kind: kind, State: full + "s"}, api.ErrLong)
			refused(t, seq, api.Record{Kind: kind, State: full + full, Stamp: -1, Entry: ent(1, 1)}, api.ErrLong)
		}
		if kind != api.RecordReset && kind != api.RecordSave {
			refused(t, 1, api.Record{Kind: kind, State: full}, api.ErrRecord)
			refused(t, 1, api.Record{Kind: kind, State: "s"}, api.ErrRecord)
		}
	}
	for _, r := range []api.Record{reset(1, 0, 0, full), save(0, 0, full)} {
		if got, code := journal.Encode(1, r); code != api.OK || !bytes.HasSuffix(got[:len(got)-4], []byte(full)) {
			t.Errorf("P7.1: a state of %d bytes: %d bytes, %d", len(full), len(got), code)
		}
	}
}
