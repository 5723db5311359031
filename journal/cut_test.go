package journal_test

import (
	"bytes"
	"slices"
	"strings"
	"testing"

	"herald/api"
	"herald/journal"
)

// told is what a journal says behind each of its records that fit; the first is ahead of all.
type told struct {
	data  []byte
	ends  []int
	saved []api.Saved
}

// toldBy reckons what the records say by the second reckoning alone.
func toldBy(data []byte) told {
	records, sizes := againWalk(data)
	g := startStory()
	all := told{data, []int{0}, []api.Saved{g.saved()}}
	for i, r := range records {
		if !g.fits(r) {
			break
		}
		g.take(r)
		all.ends, all.saved = append(all.ends, all.ends[i]+sizes[i]), append(all.saved, g.saved())
	}
	return all
}

// upTo is how many records end at a place or before.
func (d told) upTo(j int) int {
	n, found := slices.BinarySearch(d.ends, j)
	if found {
		return n
	}
	return n - 1
}

// cutAt holds P7.4 of the first j bytes.
func (d told) cutAt(t *testing.T, j int) {
	t.Helper()
	n := d.upTo(j)
	recovers(t, "P7.4: cut", d.data[:j], d.saved[n], n, d.ends[n])
	recovers(t, "P7.4: cut and copied", slices.Clone(d.data[:j]), d.saved[n], n, d.ends[n])
}

// turnedAt holds P7.5 of one byte of a record that counts.
func (d told) turnedAt(t *testing.T, at int, turn byte) {
	t.Helper()
	n := d.upTo(at)
	bad := slices.Clone(d.data)
	bad[at] ^= turn
	recovers(t, "P7.5: turned", bad, d.saved[n], n, d.ends[n])
	if got := collect(t, bad); len(got) != n {
		t.Errorf("P7.5: the byte %d turned by %d: %d records, want %d", at, turn, len(got), n)
	}
}

// journals are some of every kind of records; of the last ones not all records fit.
func journals() [][]api.Record {
	return [][]api.Record{
		{},
		{commit(300)},
		{view(1, 1, 2), entry(ent(1, 1)), entry(ent(2, 1)), commit(1)},
		{view(1, 1, 2), entry(ent(1, 1)), entry(ent(2, 1)), commit(1), save(1, 1, "s"), view(2, 2, 0), matched(2)},
		{save(9, 2, "z"), view(3, 1, 2), matched(3), entry(ent(10, 3)), commit(10), save(10, 3, "state"), save(10, 3, "")},
		{view(3, 1, 2), reset(3, 9, 2, "z"), entry(ent(10, 3)), view(4, 2, 1), matched(4), reset(4, most, most, "JR\x06\x00")},
		{view(1, 1, 2), entry(ent(1, 1)), commit(2), entry(ent(2, 1))},
		{save(1, 1, "s"), save(2, 1, "s"), view(1, 1, 0)},
	}
}

// TestCutAtEveryByte: P7.4, every beginning of some journals.
func TestCutAtEveryByte(t *testing.T) {
	for _, records := range journals() {
		d := toldBy(disk(t, records...))
		for j := range len(d.data) + 1 {
			d.cutAt(t, j)
		}
	}
}

// TestCutAndOn: P7.4, what stands behind a cut is not found again: no record stands directly behind the one ahead.
func TestCutAndOn(t *testing.T) {
	data := disk(t, journals()[3]...)
	d := toldBy(data)
	for j := range data {
		n := d.upTo(j)
		recovers(t, "P7.4: a byte less", slices.Delete(slices.Clone(data), j, j+1), d.saved[n], n, d.ends[n])
		if j > d.ends[n] {
			recovers(t, "P7.4: a record begun, then the next", slices.Concat(data[:j], data[d.ends[n+1]:]), d.saved[n], n, d.ends[n])
		}
	}
}

// TestCutOfLongBodies: P7.4, records with the greatest bodies, cut near their ends and here and there.
func TestCutOfLongBodies(t *testing.T) {
	full := strings.Repeat("s", api.MaxState)
	for _, records := range [][]api.Record{
		{save(0, 0, full), entry(greatest(1, most)), commit(1), save(1, most, full)},
		{view(most, 5, 4), reset(most, most, most, full), save(most, most, full[1:])},
	} {
		d := toldBy(disk(t, records...))
		for _, end := range d.ends {
			for _, j := range []int{end - 4096, end - 21, end - 4, end - 1, end, end + 1, end + 15, end + 16, end + 17, end + 4096} {
				if 0 <= j && j <= len(d.data) {
					d.cutAt(t, j)
				}
			}
		}
	}
}

// TestEveryByteTurned: P7.5, every byte of every record that counts, turned into every other one.
func TestEveryByteTurned(t *testing.T) {
	for _, records := range journals() {
		d := toldBy(disk(t, records...))
		for at := range d.ends[len(d.ends)-1] {
			for turn := 1; turn < 256; turn++ {
				d.turnedAt(t, at, byte(turn))
			}
		}
	}
}

// TestTurnedInLongBodies: P7.5, bytes of the greatest bodies.
func TestTurnedInLongBodies(t *testing.T) {
	full := strings.Repeat("s", api.MaxState)
	d := toldBy(disk(t, save(0, 0, full), entry(greatest(1, most)), view(1, 1, 2), reset(1, most, most, full)))
	c := chanceOf(1, 75)
	for range 100 {
		d.turnedAt(t, c.IntN(len(d.data)), byte(1+c.IntN(255)))
	}
	for _, end := range d.ends[1:] {
		d.turnedAt(t, end-1, 128)
		d.turnedAt(t, end-5, 1)
	}
}

// TestRecoverOfWhatCounts: P7.3 and P7.4, the bytes that count say the same alone, and nothing that follows on a misfit turns that.
func TestRecoverOfWhatCounts(t *testing.T) {
	for _, records := range journals() {
		data := disk(t, records...)
		saved, n, size := journal.Recover(data)
		recovers(t, "P7.4: what counts", data[:size], saved, n, size)
		recovers(t, "P7.4: and rubbish", append(slices.Clone(data[:size]), "rubbish"...), saved, n, size)
	}
}

// TestCutOfZeroes: P7.4, a record that ends in zero bytes is not whole without them, whatever stands in the room behind.
func TestCutOfZeroes(t *testing.T) {
	found := 0
	for stamp := 0; stamp < 300000 && found < 5; stamp++ {
		data := disk(t, save(stamp, 0, ""))
		kept := len(bytes.TrimRight(data, "\x00"))
		if kept > len(data)-1-found/3 {
			continue
		}
		found++
		for j := kept; j < len(data); j++ {
			recovers(t, "P7.4: without zeroes", data[:j], api.Saved{}, 0, 0)
			recovers(t, "P7.4: without zeroes", bytes.Clone(data[:j]), api.Saved{}, 0, 0)
		}
		recovers(t, "P7.4: with its zeroes", data, api.Saved{Stamp: stamp, Commit: stamp}, 1, len(data))
	}
	if found < 5 {
		t.Errorf("only %d records end in zeroes", found)
	}
}
