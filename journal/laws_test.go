package journal_test

import (
	"bytes"
	"slices"
	"strings"
	"testing"

	"herald/api"
	"herald/journal"
)

// small are records that fit one another in many orders.
func small() []api.Record {
	return []api.Record{
		entry(ent(1, 0)), entry(ent(1, 1)), entry(ent(2, 1)), entry(ent(3, 2)),
		view(1, 1, 2), view(2, 2, 0), matched(1), matched(2),
		reset(1, 0, 0, ""), reset(1, 1, 1, "r"), reset(2, 2, 1, "q"),
		save(0, 0, "a"), save(1, 0, "b"), save(1, 1, "c"), save(2, 1, ""),
		commit(0), commit(1), commit(2), commit(3),
	}
}

// TestEverySmallJournal: P7.3, all journals of up to six of these records; each is held behind its last record, as what is ahead was held already.
func TestEverySmallJournal(t *testing.T) {
	const depth = 6
	var pieces [depth + 1][][]byte
	for number := 1; number <= depth; number++ {
		for _, r := range small() {
			pieces[number] = append(pieces[number], diskFrom(t, number, r))
		}
	}
	fitting := 0
	var grow func(data []byte, count int)
	grow = func(data []byte, count int) {
		for _, piece := range pieces[count+1] {
			next := slices.Concat(data, piece)
			saved, n, size := againRecover(next)
			recovers(t, "P7.3: a small journal", next, saved, n, size)
			// Behind one that does not fit nothing more is said.
			if n > count {
				fitting++
				compactsAgain(t, "of a small journal", saved)
				if n < depth {
					grow(next, n)
				}
			}
		}
	}
	grow(nil, 0)
	if fitting < 10000 {
		t.Errorf("only %d of the small journals fit", fitting)
	}
}

// next is a record that fits, as far as chance has it so.
func (c chance) next(s api.Saved) api.Record {
	last, of := s.Stamp+len(s.Entries), s.Of
	if n := len(s.Entries); n > 0 {
		of = s.Entries[n-1].View
	}
	at := s.Stamp + c.IntN(max(1, min(s.Commit-s.Stamp+1, 1<<20)))
	atView := s.Of
	if at > s.Stamp {
		atView = s.Entries[at-s.Stamp-1].View
	}
	state := strings.Repeat(string(rune('a'+c.IntN(26))), c.IntN(6))
	switch c.IntN(12) {
	default:
		return entry(ent(min(last+1, most), min(of+c.IntN(2), most)))
	case 1, 2, 3:
		return commit(min(s.Commit+1+c.IntN(3), most))
	case 4:
		return view(min(s.View.Num+1+c.IntN(3), most), 1+c.IntN(3), 4+c.IntN(2))
	case 5:
		return matched(max(s.View.Num, 1))
	case 6:
		return reset(max(s.View.Num, 1), pick(c, 0, last, last+3, most-5)%(most+1), pick(c, 0, of, most-2), state)
	case 7, 8:
		return save(at, atView, state)
	}
}

// bent is a record that is a little off.
func (c chance) bent(r api.Record) api.Record {
	all := more(r)
	return all[c.IntN(len(all))]
}

// journal makes one of records of which most fit, and its bytes.
func (c chance) journal(count int) []byte {
	g := startStory()
	var data []byte
	for number := 1; number <= count; number++ {
		r := c.next(g.saved())
		if c.IntN(20) == 0 {
			r = c.bent(r)
		}
		piece, code := againEncode(number, r)
		if code != api.OK {
			number--
			continue
		}
		if g.fits(r) {
			g.take(r)
		} else if c.IntN(8) > 0 {
			number--
			continue
		}
		data = append(data, piece...)
	}
	return data
}

// TestLongScripts: P7.2 to P7.8, journals by chance, held against the second reckoning.
func TestLongScripts(t *testing.T) {
	longest := 0
	for seed := range uint64(400) {
		c := chanceOf(seed, 7)
		data := c.journal(c.IntN(60))
		likeAgain(t, "by chance", data)
		saved, n, size := journal.Recover(data)
		longest = max(longest, n)
		compactsAgain(t, "by chance", saved)
		if again, m, k := journal.Recover(data[:size]); m != n || k != size || !sameSaved(again, saved) {
			t.Errorf("P7.4: seed %d: %s, %d, %d behind %s, %d, %d", seed, tell(again), m, k, tell(saved), n, size)
		}
		d := toldBy(data)
		for range 20 {
			d.cutAt(t, c.IntN(len(data)+1))
			if size > 0 {
				d.turnedAt(t, c.IntN(size), byte(1+c.IntN(255)))
			}
		}
		if t.Failed() {
			t.Fatalf("seed %d", seed)
		}
	}
	if longest < 40 {
		t.Errorf("the longest of these journals has %d records", longest)
	}
}

// spoil turns, puts in or takes out some bytes.
func (c chance) spoil(data []byte) []byte {
	data = slices.Clone(data)
	for range 1 + c.IntN(2) {
		at := c.IntN(len(data) + 1)
		switch {
		case c.IntN(3) == 0 || at == len(data):
			data = slices.Insert(data, at, pick(c, 0, 1, 2, 5, 6, 127, 128, 255, byte(c.IntN(256))))
		case c.IntN(2) == 0:
			data = slices.Delete(data, at, at+1)
		default:
			data[at] = pick(c, 0, 1, 2, 5, 6, 127, 128, 129, 255, byte(c.IntN(256)))
		}
	}
	return data
}

// TestBodiesByChance: P7.2, bodies that are a little off, with sums that are right: they are handed on, if they are those of some record.
func TestBodiesByChance(t *testing.T) {
	var bodies [][]byte
	for _, r := range append(everyKind(), small()...) {
		if len(againBody(r)) < 3000 {
			bodies = append(bodies, append([]byte{byte(r.Kind)}, againBody(r)...))
		}
	}
	whole := 0
	c := chanceOf(1, 72)
	for range 40000 {
		b := pick(c, bodies...)
		body := c.spoil(b[1:])
		data := packed(b[0], 1, body)
		want, _ := againWalk(data)
		got := collect(t, data)
		if !slices.EqualFunc(got, want, sameRecord) {
			t.Fatalf("P7.2: the kind %d, the body %x: %s, want %s", b[0], body, tell(got), tell(want))
		}
		whole += len(want)
	}
	if whole < 4000 || whole > 36000 {
		t.Errorf("of 40000 bodies %d are those of records", whole)
	}
}

// TestRubbish: P7.3 and W1, any bytes: at chance, and journals with bytes turned, put in or taken out.
func TestRubbish(t *testing.T) {
	for seed := range uint64(3000) {
		c := chanceOf(seed, 73)
		data := make([]byte, c.IntN(200))
		for i := range data {
			data[i] = pick(c, 0, 1, 0x4A, 0x52, 255, byte(c.IntN(256)))
		}
		likeAgain(t, "rubbish", data)
		likeAgain(t, "a spoilt journal", c.spoil(c.journal(c.IntN(8))))
		if t.Failed() {
			t.Fatalf("seed %d", seed)
		}
	}
}

// TestEncodeIsReadBack: P7.1 and P7.2, what is read is written to the same bytes.
func TestEncodeIsReadBack(t *testing.T) {
	for seed := range uint64(200) {
		data := chanceOf(seed, 74).journal(30)
		var again []byte
		for number, r := range journal.Walk(data) {
			piece, code := journal.Encode(number, r)
			if code != api.OK {
				t.Errorf("P7.2: a record that may not be: %s", tell(r))
			}
			again = append(again, piece...)
		}
		if !bytes.Equal(again, data) {
			t.Fatalf("P7.2: seed %d: %d bytes of %d", seed, len(again), len(data))
		}
	}
}

// TestCompactOfSaid: P7.6, whatever records say may be; and a short journal of it says the same, and is its own short journal.
func TestCompactOfSaid(t *testing.T) {
	for seed := range uint64(300) {
		c := chanceOf(seed, 76)
		saved, _, _ := journal.Recover(c.journal(c.IntN(40)))
		data, _, code := journal.Compact(saved)
		if code != api.OK {
			t.Fatalf("P7.6: seed %d: Compact(%s) says %d", seed, tell(saved), code)
		}
		again, _, _ := journal.Recover(data)
		more, _, _ := journal.Compact(again)
		if !sameSaved(again, saved) || !bytes.Equal(more, data) {
			t.Fatalf("P7.8: seed %d: %s of %s", seed, tell(again), tell(saved))
		}
	}
}
