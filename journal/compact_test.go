package journal_test

import (
	"bytes"
	"math"
	"strings"
	"testing"

	"herald/api"
	"herald/journal"
)

// compacts holds what Compact answers, record by record, and P7.8.
func compacts(t *testing.T, s api.Saved, want ...api.Record) {
	t.Helper()
	data, n, code := journal.Compact(s)
	if code != api.OK || n != len(want) || !bytes.Equal(data, disk(t, want...)) {
		t.Errorf("P7.7: Compact(%s) = %s, %d, %d; want %s", tell(s), tell(collect(t, data)), n, code, tell(want))
	}
	recovers(t, "P7.8", data, s, len(want), len(data))
}

// TestCompactRecords: P7.7 and P7.8, which records there are, and in which order.
func TestCompactRecords(t *testing.T) {
	v := api.View{Num: 3, Primary: 1, Backup: 2}
	compacts(t, api.Saved{})
	compacts(t, api.Saved{Entries: []api.Entry{}})
	compacts(t, api.Saved{View: v}, view(3, 1, 2))
	compacts(t, api.Saved{View: api.View{Num: 1, Primary: 1, Backup: 2}}, view(1, 1, 2))
	compacts(t, api.Saved{View: v, Matched: 3, Stamp: 9, Of: 2, State: "z", Entries: []api.Entry{ent(10, 3)}, Commit: 9}, save(9, 2, "z"), view(3, 1, 2), matched(3), entry(ent(10, 3)))
	compacts(t, api.Saved{View: v, Matched: 3}, view(3, 1, 2), matched(3))
	compacts(t, api.Saved{View: v, Matched: 2}, view(2, 1, 2), matched(2), view(3, 1, 2))
	compacts(t, api.Saved{View: v, Matched: 1}, view(1, 1, 2), matched(1), view(3, 1, 2))
	compacts(t, api.Saved{View: api.View{Num: most, Primary: 5}, Matched: most - 1}, view(most-1, 5, 0), matched(most-1), view(most, 5, 0))
	compacts(t, api.Saved{View: api.View{Num: most, Primary: 5}, Matched: most}, view(most, 5, 0), matched(most))
	compacts(t, api.Saved{Stamp: 1, Commit: 1}, save(1, 0, ""))
	compacts(t, api.Saved{Of: 1}, save(0, 1, ""))
	compacts(t, api.Saved{State: "s"}, save(0, 0, "s"))
	compacts(t, api.Saved{Stamp: most, Of: most, State: "\x00", Commit: most}, save(most, most, "\x00"))
	compacts(t, api.Saved{Entries: []api.Entry{ent(1, 0)}}, entry(ent(1, 0)))
	compacts(t, api.Saved{Entries: []api.Entry{ent(1, 0), ent(2, 0), ent(3, 7)}, Commit: 2}, entry(ent(1, 0)), entry(ent(2, 0)), entry(ent(3, 7)), commit(2))
	compacts(t, api.Saved{Stamp: 4, Of: 7, Entries: []api.Entry{ent(5, 7)}, Commit: 5}, save(4, 7, ""), entry(ent(5, 7)), commit(5))
	compacts(t, api.Saved{View: v, Matched: 2, Of: 1, State: "s", Entries: []api.Entry{ent(1, 1), ent(2, most)}, Commit: 1}, save(0, 1, "s"), view(2, 1, 2), matched(2), view(3, 1, 2), entry(ent(1, 1)), entry(ent(2, most)), commit(1))
	compacts(t, api.Saved{Stamp: most - 1, Of: 1, Entries: []api.Entry{greatest(most, 1)}, Commit: most}, save(most-1, 1, ""), entry(greatest(most, 1)), commit(most))
}

// TestCompactFullState: P7.7, a state of MaxState bytes is written, one more is too long, whatever else is wrong.
func TestCompactFullState(t *testing.T) {
	full := strings.Repeat("s", api.MaxState)
	compacts(t, api.Saved{State: full}, save(0, 0, full))
	for _, s := range []api.Saved{{State: full + "s"}, {State: full + full, Commit: 1}, {State: full + "s", Stamp: -1, Matched: math.MinInt, Entries: []api.Entry{{}}}} {
		refusesSaved(t, s, api.ErrLong)
	}
}

// refusesSaved holds an error of Compact, and that nothing stands beside it (W3).
func refusesSaved(t *testing.T, s api.Saved, want api.Errno) {
	t.Helper()
	data, n, code := journal.Compact(s)
	if len(data) != 0 || n != 0 || code != want {
		t.Errorf("P7.7: Compact(%s) = %d bytes, %d, %d; want %d", tell(s), len(data), n, code, want)
	}
}

// TestMayNotBe: P7.6 and P7.7, what no records say.
func TestMayNotBe(t *testing.T) {
	v := api.View{Num: 2, Primary: 1, Backup: 2}
	five := ent(1, 1)
	five.Ops = make([]api.Op, api.MaxOps+1)
	for _, s := range []api.Saved{
		{Commit: 1}, {Commit: -1}, {Stamp: 5, Commit: 4}, {Stamp: 5, Commit: 6}, {Stamp: 5},
		{Matched: 1}, {Matched: -1}, {View: v, Matched: 3}, {View: v, Matched: -1}, {View: v, Matched: math.MaxInt},
		{View: api.View{Num: 2}}, {View: api.View{Primary: 1}}, {View: api.View{Backup: 1}}, {View: api.View{Num: 2, Primary: 6}}, {View: api.View{Num: 2, Primary: 1, Backup: 6}}, {View: api.View{Num: 2, Primary: 1, Backup: 1}}, {View: api.View{Num: -1, Primary: 1}}, {View: api.View{Num: most + 1, Primary: 1}}, {View: api.View{Num: 2, Primary: 1, Backup: -1}}, {View: api.View{Num: 2, Primary: -1}},
		{Stamp: -1, Commit: -1}, {Stamp: most + 1, Commit: most + 1}, {Of: -1}, {Of: most + 1}, {Stamp: math.MaxInt, Commit: math.MaxInt}, {Stamp: math.MinInt, Commit: math.MinInt},
		{Entries: []api.Entry{ent(2, 1)}}, {Entries: []api.Entry{ent(1, 1), ent(1, 1)}}, {Entries: []api.Entry{ent(1, 1), ent(3, 1)}}, {Entries: []api.Entry{ent(2, 1), ent(1, 1)}}, {Stamp: 1, Entries: []api.Entry{ent(1, 1)}, Commit: 1},
		{Of: 2, Entries: []api.Entry{ent(1, 1)}}, {Entries: []api.Entry{ent(1, 2), ent(2, 1)}}, {Entries: []api.Entry{ent(1, -1)}}, {Entries: []api.Entry{ent(1, most+1)}},
		{Entries: []api.Entry{{Stamp: 1}}}, {Entries: []api.Entry{five}}, {Entries: []api.Entry{ent(1, 1), {Stamp: 2, View: 1, Kind: 5, Session: 1}}},
		{Stamp: most, Entries: []api.Entry{ent(most+1, 1)}, Commit: most}, {Stamp: math.MaxInt, Entries: []api.Entry{{Stamp: math.MinInt, Kind: 2, Session: 1}}, Commit: math.MaxInt},
		{Entries: []api.Entry{ent(1, 1)}, Commit: 2}, {Entries: []api.Entry{ent(1, 1)}, Commit: -1},
	} {
		refusesSaved(t, s, api.ErrArg)
	}
}

// TestEverySmallSaved: P7.6 to P7.8, all Saveds of small parts, whether they may be or not.
func TestEverySmallSaved(t *testing.T) {
	lists := [][]api.Entry{nil, {ent(1, 1)}, {ent(1, 0)}, {ent(2, 1)}, {ent(1, 1), ent(2, 1)}, {ent(1, 1), ent(2, 0)}, {ent(2, 1), ent(3, 2)}, {ent(1, 1), ent(3, 1)}, {{Stamp: 1, View: 1}}}
	views := []api.View{{}, {Num: 1, Primary: 1}, {Num: 2, Primary: 1, Backup: 2}, {Num: 2, Primary: 2, Backup: 2}, {Num: 3, Primary: 5, Backup: 4}, {Primary: 1}}
	mayBe := 0
	for _, v := range views {
		for matched := -1; matched <= 4; matched++ {
			for stamp := -1; stamp <= 2; stamp++ {
				for of := -1; of <= 2; of++ {
					for commit := -1; commit <= 4; commit++ {
						for i, list := range lists {
							s := api.Saved{View: v, Matched: matched, Stamp: stamp, Of: of, Entries: list, Commit: commit, State: strings.Repeat("s", i%2)}
							compactsAgain(t, "a small one", s)
							if againSavedMayBe(s) {
								mayBe++
							}
						}
					}
				}
			}
		}
	}
	if mayBe < 200 {
		t.Errorf("only %d of these may be", mayBe)
	}
}

// TestSavedEnds: P7.6 and P7.7, every number at the ends of numbers.
func TestSavedEnds(t *testing.T) {
	for _, base := range []api.Saved{{}, {View: api.View{Num: 3, Primary: 1, Backup: 2}, Matched: 2, Stamp: 4, Of: 1, State: "s", Entries: []api.Entry{ent(5, 1), ent(6, 2)}, Commit: 5}} {
		for _, a := range ends() {
			for i := range 12 {
				s := base
				s.Entries = append([]api.Entry{}, base.Entries...)
				first := &api.Entry{}
				if len(s.Entries) > 0 {
					first = &s.Entries[0]
				}
				*[]*int{&s.View.Num, &s.View.Primary, &s.View.Backup, &s.Matched, &s.Stamp, &s.Of, &s.Commit, &first.Stamp, &first.View, &first.Kind, &first.Session, &first.Request}[i] = a
				compactsAgain(t, "at the ends", s)
				s.Commit = s.Stamp
				compactsAgain(t, "at the ends", s)
			}
		}
	}
}

// TestCompactALongOne: P7.7 and P7.8, thousands of entries.
func TestCompactALongOne(t *testing.T) {
	s := api.Saved{View: api.View{Num: 9, Primary: 3, Backup: 1}, Matched: 4, Stamp: 300, Of: 2, State: strings.Repeat("z", 1000), Commit: 2000}
	for stamp := 301; stamp <= 5000; stamp++ {
		s.Entries = append(s.Entries, ent(stamp, stamp/100))
	}
	compactsAgain(t, "a long one", s)
}
