package journal_test

import (
	"iter"
	"slices"
	"strings"
	"testing"

	"herald/api"
	"herald/journal"
)

// TestWalkGivesBack: P7.2, what was written is handed on, record by record, in their order, whether they fit one another or not.
func TestWalkGivesBack(t *testing.T) {
	all := everyKind()
	if got := collect(t, disk(t, all...)); !slices.EqualFunc(got, all, sameRecord) {
		t.Errorf("P7.2: Walk hands on %d records of %d", len(got), len(all))
	}
	for _, r := range all {
		if got := collect(t, disk(t, r)); !slices.EqualFunc(got, []api.Record{r}, sameRecord) {
			t.Errorf("P7.2: Walk hands on %s, want %s", tell(got), tell(r))
		}
	}
}

// TestWalkOfNothing: P7.2 and W1, bytes without a record.
func TestWalkOfNothing(t *testing.T) {
	d := disk(t, view(1, 1, 2), commit(1))
	for _, data := range [][]byte{nil, {}, {0}, {0x4A}, {0x4A, 0x52}, make([]byte, 100), []byte(strings.Repeat("JR", 50)), d[1:], d[len(d)-21:], append([]byte{0}, d...), slices.Repeat([]byte{255}, 300)} {
		if got := collect(t, data); len(got) != 0 {
			t.Errorf("P7.2: Walk of % x hands on %s", data, tell(got))
		}
	}
}

// TestWalkEnds: P7.2, it ends where no whole record of the next number stands, and looks for none behind.
func TestWalkEnds(t *testing.T) {
	ahead := []api.Record{view(1, 1, 2), entry(ent(1, 1)), matched(1)}
	d := disk(t, ahead...)
	behind := diskFrom(t, 4, commit(1), commit(2))
	for what, more := range map[string][]byte{
		"nothing":                 nil,
		"a byte":                  {0x4A},
		"a number twice":          diskFrom(t, 3, commit(1)),
		"the first number":        disk(t, commit(1)),
		"a number too far":        diskFrom(t, 5, commit(1)),
		"the number 0":            packed(6, 0, []byte{1}),
		"a number a byte off":     packed(6, 4<<8, []byte{1}),
		"one byte, then records":  append([]byte{0}, behind...),
		"records without a byte":  behind[1:],
		"the rest of a record":    behind[16:],
		"the mark alone, records": append([]byte{0x4A, 0x52}, behind...),
	} {
		if got := collect(t, slices.Concat(d, more)); !slices.EqualFunc(got, ahead, sameRecord) {
			t.Errorf("P7.2: with %s behind: %s", what, tell(got))
		}
	}
	if got := collect(t, slices.Concat(d, behind)); len(got) != 5 {
		t.Errorf("P7.2: with the next two behind: %s", tell(got))
	}
}

// TestHeads: P7.2, heads that no record has, with sums that are right.
func TestHeads(t *testing.T) {
	good := []byte{0x4A, 0x52, 6, 0}
	if got := collect(t, packedAs(good, 1, 1, []byte{7})); len(got) != 1 || got[0].Stamp != 7 {
		t.Fatalf("P7.2: %s", tell(got))
	}
	for i := range good {
		for turn := 1; turn < 256; turn++ {
			front := slices.Clone(good)
			front[i] ^= byte(turn)
			data := packedAs(front, 1, 1, []byte{7})
			// A body of one number is a match's too.
			if got := collect(t, data); len(got) != 0 && !(i == 2 && front[2] == 3) {
				t.Errorf("P7.2: the head % x: %s", front, tell(got))
			}
			likeAgain(t, "another head", data)
		}
	}
	for _, size := range []int{0, 2, 255, 257, 1 << 16, 1<<16 + 1, 1 << 24, 1 << 31, 1<<31 - 1, 1<<31 + 1, 1<<32 - 1, 1<<32 - 20, 1<<32 - 19, 1<<32 - 16} {
		for _, room := range []int{1, 2, 300, 1 << 17} {
			data := packedAs(good, 1, size, slices.Concat([]byte{7}, make([]byte, room-1)))
			if got := collect(t, data); len(got) != 0 && size != room {
				t.Errorf("P7.2: a body of %d bytes that is said to have %d: %s", room, size, tell(got))
			}
			likeAgain(t, "another size", data)
		}
	}
}

// TestSums: P7.2, each of the two sums is asked for.
func TestSums(t *testing.T) {
	for _, r := range everyKind()[:6] {
		d := disk(t, r)
		first := slices.Clone(d)
		first[13]++
		first = append(first[:len(d)-4], crc(first[:len(d)-4])...)
		second := slices.Clone(d)
		second[len(d)-2]++
		if a, b := collect(t, first), collect(t, second); len(a)+len(b) != 0 {
			t.Errorf("P7.2: a wrong sum: %s, %s", tell(a), tell(b))
		}
	}
}

// TestBodiesThatAreNone: P7.2, bodies that Encode does not write, with sums that are right.
func TestBodiesThatAreNone(t *testing.T) {
	over := againText([]byte{1, 1}, strings.Repeat("s", api.MaxState+1))
	wide := againText([]byte{1, 1}, strings.Repeat("s", api.MaxFrame+1))
	five := againNumbers([]byte{1, 1, 1, 1, 1}, 5)
	five = append(five, make([]byte, 5*5)...)
	for _, c := range []struct {
		kind byte
		body string
	}{
		{0, ""}, {0, "\x01"}, {7, ""}, {7, "\x01"}, {255, "\x01"},
		{1, ""}, {1, "\x01\x01\x02\x05\x00"}, {1, "\x01\x01\x02\x05\x00\x00\x00"}, {1, "\x00\x01\x02\x05\x00\x00"}, {1, "\x01\x01\x02\x00\x00\x00"}, {1, "\x01\x01\x05\x05\x00\x00"}, {1, "\x01\x01\x02\x05\x01\x00"}, {1, "\x81\x00\x01\x02\x05\x00\x00"}, {1, string(five)},
		{2, ""}, {2, "\x01\x01"}, {2, "\x01\x01\x02\x00"}, {2, "\x00\x01\x02"}, {2, "\x01\x00\x02"}, {2, "\x01\x06\x02"}, {2, "\x01\x01\x06"}, {2, "\x01\x02\x02"}, {2, "\x81\x00\x01\x02"}, {2, "\xff\xff\xff\xff\x08\x01\x02"}, {2, "\x01\x01\x80"},
		{3, ""}, {3, "\x00"}, {3, "\x01\x00"}, {3, "\x80\x00"}, {3, "\x80"}, {3, "\xff\xff\xff\xff\x08"},
		{4, ""}, {4, "\x00\x01\x01\x00"}, {4, "\x01\x01\x01"}, {4, "\x01\x01\x01\x01"}, {4, "\x01\x01\x01\x00\x00"}, {4, "\x01\xff\xff\xff\xff\x08\x01\x00"}, {4, "\x01\x01\x81\x00\x00"}, {4, "\x01\x01\x01\x80\x00"}, {4, "\x01" + string(over)}, {4, "\x01" + string(wide)},
		{5, ""}, {5, "\x01\x01"}, {5, "\x01\x01\x01"}, {5, "\x01\x01\x00\x00"}, {5, "\x81\x00\x01\x00"}, {5, "\x01\x01\x81\x00s"}, {5, string(over)}, {5, string(wide)}, {5, "\x01\x01\xff\xff\xff\xff\x07"},
		{6, ""}, {6, "\x80"}, {6, "\x80\x00"}, {6, "\x01\x00"}, {6, "\xff\xff\xff\xff\x08"}, {6, "\xff\xff\xff\xff\xff\x01"},
	} {
		data := slices.Concat(packed(c.kind, 1, []byte(c.body)), diskFrom(t, 2, commit(1)))
		if got := collect(t, data); len(got) != 0 {
			t.Errorf("P7.2: the kind %d, the body %.50x: %s", c.kind, c.body, tell(got))
		}
		recovers(t, "P7.3: a body that is none", data, api.Saved{}, 0, 0)
		ahead := slices.Concat(disk(t, view(1, 1, 2)), packed(c.kind, 2, []byte(c.body)))
		if got := collect(t, ahead); len(got) != 1 {
			t.Errorf("P7.2: the kind %d, the body %.50x behind a record: %s", c.kind, c.body, tell(got))
		}
	}
}

// TestTheFullState: P7.2, the greatest state is read, with one byte more it is not.
func TestTheFullState(t *testing.T) {
	full := strings.Repeat("s", api.MaxState)
	for _, r := range []api.Record{reset(1, 1, 1, full), save(1, 1, full)} {
		if got := collect(t, disk(t, r)); len(got) != 1 || !sameRecord(got[0], r) {
			t.Errorf("P7.2: a state of %d bytes: %d records", len(full), len(got))
		}
		r.State += "s"
		if got := collect(t, packed(byte(r.Kind), 1, againBody(r))); len(got) != 0 {
			t.Errorf("P7.2: a state of %d bytes: %d records", len(full)+1, len(got))
		}
	}
}

// TestStopAndAgain: P7.2, whoever ranges may stop at any record, and range again from the beginning.
func TestStopAndAgain(t *testing.T) {
	all := []api.Record{view(1, 1, 2), entry(ent(1, 1)), entry(ent(2, 1)), commit(2)}
	walk := journal.Walk(disk(t, all...))
	for stop := range len(all) + 1 {
		seen := 0
		for number, r := range walk {
			seen++
			if number != seen || !sameRecord(r, all[seen-1]) {
				t.Errorf("P7.2: behind a stop: %d, %s", number, tell(r))
			}
			if seen == stop {
				break
			}
		}
		if want := []int{4, 1, 2, 3, 4}[stop]; seen != want {
			t.Errorf("P7.2: %d records up to the stop %d, want %d", seen, stop, want)
		}
	}
}

// TestToldToStop: W1, an iterator that is told to stop hands on nothing more.
func TestToldToStop(t *testing.T) {
	walk := journal.Walk(disk(t, view(1, 1, 2), matched(1), commit(0)))
	for stop := 1; stop <= 3; stop++ {
		calls := 0
		walk(func(int, api.Record) bool {
			calls++
			return calls < stop
		})
		if calls != stop {
			t.Errorf("W1: %d calls, told to stop at %d", calls, stop)
		}
	}
}

// TestRangeInside: P7.2, a range inside of a range begins at the beginning, and does not turn the outer one.
func TestRangeInside(t *testing.T) {
	walk := journal.Walk(disk(t, view(1, 1, 2), entry(ent(1, 1)), commit(1)))
	var seen []int
	for outer, a := range walk {
		seen = append(seen, outer, a.Kind)
		for inner, b := range walk {
			seen = append(seen, inner, b.Kind)
			if inner > outer {
				break
			}
		}
	}
	if want := []int{1, 2, 1, 2, 2, 1, 2, 1, 1, 2, 2, 1, 3, 6, 3, 6, 1, 2, 2, 1, 3, 6}; !slices.Equal(seen, want) {
		t.Errorf("P7.2: %v, want %v", seen, want)
	}
}

// TestPulled: P7.2, several that go through it by turns each have their own place in it.
func TestPulled(t *testing.T) {
	all := []api.Record{view(1, 1, 2), entry(ent(1, 1)), commit(1)}
	walk := journal.Walk(disk(t, all...))
	nextA, stopA := iter.Pull2(walk)
	nextB, stopB := iter.Pull2(walk)
	defer stopB()
	for i := range all {
		n, a, okA := nextA()
		m, b, okB := nextB()
		if !okA || !okB || n != i+1 || m != i+1 || !sameRecord(a, all[i]) || !sameRecord(b, all[i]) {
			t.Errorf("P7.2: %d, %s; %d, %s", n, tell(a), m, tell(b))
		}
	}
	stopA()
	if _, _, ok := nextB(); ok {
		t.Error("P7.2: a fourth of three records")
	}
}

// TestThePanicOfAnother: what a ranging function gives up with is not caught here: it is no panic inside.
func TestThePanicOfAnother(t *testing.T) {
	defer func() {
		if got := recover(); got != "mine" {
			t.Errorf("a range that panics: %v", got)
		}
	}()
	for range journal.Walk(disk(t, commit(1), commit(2))) {
		panic("mine")
	}
	t.Error("the panic is gone")
}
