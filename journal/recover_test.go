package journal_test

import (
	"slices"
	"strings"
	"testing"

	"herald/api"
	"herald/journal"
)

// TestRecoverOfNothing: P7.3, bytes that say nothing.
func TestRecoverOfNothing(t *testing.T) {
	for _, data := range [][]byte{nil, {}, {0x4A}, make([]byte, 1000), disk(t, commit(300)), disk(t, commit(0)), disk(t, commit(1)), disk(t, matched(1)), disk(t, reset(1, 2, 1, "s")), disk(t, entry(ent(2, 1)))} {
		recovers(t, "P7.3: nothing is said", data, api.Saved{}, 0, 0)
	}
}

// TestExamples: P7.3, the chapter's examples.
func TestExamples(t *testing.T) {
	v := api.View{Num: 1, Primary: 1, Backup: 2}
	four := []api.Record{view(1, 1, 2), entry(ent(1, 1)), entry(ent(2, 1)), commit(1)}
	d := disk(t, four...)
	both := []api.Entry{ent(1, 1), ent(2, 1)}
	recovers(t, "P7.3", d, api.Saved{View: v, Entries: both, Commit: 1}, 4, len(d))
	recovers(t, "P7.4", d[:len(d)-1], api.Saved{View: v, Entries: both}, 3, len(d)-21)
	stops(t, "P7.3", view(1, 2, 0), four...)
	says(t, "P7.3", api.Saved{View: v, Stamp: 1, Of: 1, State: "s", Entries: both[1:], Commit: 1}, append(four, save(1, 1, "s"))...)
	recovers(t, "P7.3", disk(t, view(1, 1, 2), entry(ent(2, 1))), api.Saved{View: v}, 1, 23)
	says(t, "P7.3", api.Saved{View: api.View{Num: 3, Primary: 1, Backup: 2}, Matched: 3, Stamp: 9, Of: 2, State: "z", Entries: []api.Entry{ent(10, 3)}, Commit: 9},
		view(3, 1, 2), reset(3, 9, 2, "z"), entry(ent(10, 3)))
}

// TestEntries: P7.3, an entry is the next one, and its view does not fall.
func TestEntries(t *testing.T) {
	says(t, "P7.3: a first entry", api.Saved{Entries: []api.Entry{ent(1, 0)}}, entry(ent(1, 0)))
	says(t, "P7.3: views rise", api.Saved{Entries: []api.Entry{ent(1, 0), ent(2, 0), ent(3, most)}}, entry(ent(1, 0)), entry(ent(2, 0)), entry(ent(3, most)))
	says(t, "P7.3: behind a save", api.Saved{Stamp: 7, Of: 2, Entries: []api.Entry{ent(8, 2)}, Commit: 7}, save(7, 2, ""), entry(ent(8, 2)))
	says(t, "P7.3: the last stamp", api.Saved{Stamp: most - 1, Of: 2, Entries: []api.Entry{ent(most, 2)}, Commit: most - 1}, save(most-1, 2, ""), entry(ent(most, 2)))
	says(t, "P7.3: the greatest entry", api.Saved{Entries: []api.Entry{greatest(1, most)}}, entry(greatest(1, most)))
	ahead := []api.Record{save(7, 2, ""), entry(ent(8, 3))}
	for _, e := range []api.Entry{ent(1, 3), ent(7, 3), ent(8, 3), ent(10, 3), ent(9, 2), ent(9, 0), ent(most, 3)} {
		stops(t, "P7.3: an entry that does not follow", entry(e), ahead...)
	}
	for _, e := range []api.Entry{ent(1, 3), ent(7, 3), ent(9, 3), ent(8, 1)} {
		stops(t, "P7.3: an entry that does not follow on a save", entry(e), save(7, 2, ""))
	}
	stops(t, "P7.3: behind the last stamp", entry(ent(1, 5)), save(most, 2, ""))
	stops(t, "P7.3: the last view counts, not Of", entry(ent(10, 3)), save(7, 2, ""), entry(ent(8, 2)), entry(ent(9, 4)))
}

// TestViews: P7.3, the numbers of views rise; nothing else changes with one.
func TestViews(t *testing.T) {
	says(t, "P7.3: views", api.Saved{View: api.View{Num: most, Primary: 5, Backup: 1}}, view(1, 1, 0), view(2, 1, 0), view(7, 3, 2), view(most, 5, 1))
	for _, num := range []int{1, 6, 7} {
		stops(t, "P7.3: a view that is no later one", view(num, 1, 2), view(7, 3, 2))
	}
	stops(t, "P7.3: the last view once more", view(most, 3, 2), view(most, 3, 2))
	whole := api.Saved{View: api.View{Num: 4, Primary: 2}, Matched: 3, Stamp: 9, Of: 2, State: "z", Entries: []api.Entry{ent(10, 3)}, Commit: 10}
	says(t, "P7.3: a view turns nothing else", whole, view(3, 1, 2), reset(3, 9, 2, "z"), entry(ent(10, 3)), commit(10), view(4, 2, 0))
}

// TestMatched: P7.3, only the present view is matched.
func TestMatched(t *testing.T) {
	v := api.View{Num: 4, Primary: 2}
	says(t, "P7.3: a match", api.Saved{View: v, Matched: 4}, view(4, 2, 0), matched(4))
	says(t, "P7.3: a match twice", api.Saved{View: v, Matched: 4}, view(4, 2, 0), matched(4), matched(4))
	says(t, "P7.3: a match stays", api.Saved{View: v, Matched: 3, Entries: []api.Entry{ent(1, 9)}, Commit: 1}, view(3, 1, 2), entry(ent(1, 9)), commit(1), matched(3), view(4, 2, 0))
	for _, num := range []int{1, 3, 5, most} {
		stops(t, "P7.3: a match of another view", matched(num), view(3, 1, 2), matched(3), view(4, 2, 0))
	}
}

// TestResets: P7.3, a reset of the present view, whatever its numbers are, leaves nothing but the view.
func TestResets(t *testing.T) {
	v := api.View{Num: 4, Primary: 2, Backup: 1}
	ahead := []api.Record{save(7, 2, "old"), view(3, 1, 2), matched(3), entry(ent(8, 3)), entry(ent(9, 3)), commit(8), view(4, 2, 1)}
	for _, stamp := range []int{0, 1, 7, 8, 9, 10, most} {
		for _, of := range []int{0, 1, 3, 9, most} {
			for _, state := range []string{"", "z", strings.Repeat("z", api.MaxState)} {
				says(t, "P7.3: a reset", api.Saved{View: v, Matched: 4, Stamp: stamp, Of: of, State: state, Commit: stamp}, append(ahead[:7:7], reset(4, stamp, of, state))...)
			}
		}
	}
	for _, num := range []int{1, 3, 5, most} {
		stops(t, "P7.3: a reset of another view", reset(num, 9, 3, "z"), ahead...)
	}
	says(t, "P7.3: on from a reset", api.Saved{View: v, Matched: 4, Stamp: 2, Of: 5, State: "z", Entries: []api.Entry{ent(3, 5)}, Commit: 3}, append(ahead[:7:7], reset(4, 2, 5, "z"), entry(ent(3, 5)), commit(3))...)
	stops(t, "P7.3: an entry below a reset's view", entry(ent(3, 4)), append(ahead[:7:7], reset(4, 2, 5, "z"))...)
}

// TestFirstSaves: P7.3, the journal's first record may be any save.
func TestFirstSaves(t *testing.T) {
	for _, stamp := range []int{0, 1, 300, most} {
		for _, of := range []int{0, 1, most} {
			for _, state := range []string{"", "\x00", strings.Repeat("z", api.MaxState)} {
				says(t, "P7.3: a first save", api.Saved{Stamp: stamp, Of: of, State: state, Commit: stamp}, save(stamp, of, state))
			}
		}
	}
	stops(t, "P7.3: a save that is the second record, above the commit", save(1, 0, "z"), view(1, 1, 2))
	stops(t, "P7.3: a save that is the second record, of another view", save(0, 1, "z"), view(1, 1, 2))
	stops(t, "P7.3: a second save that goes back", save(6, 2, "z"), save(7, 2, "z"))
	stops(t, "P7.3: a second save that goes on", save(8, 2, "z"), save(7, 2, "z"))
	says(t, "P7.3: a save of nothing", api.Saved{View: api.View{Num: 1, Primary: 1}, State: "z"}, view(1, 1, 0), save(0, 0, "z"))
}

// TestSaves: P7.3, a save of a stamp from the Saved's own up to the commit, with the view of the entry there.
func TestSaves(t *testing.T) {
	v := api.View{Num: 9, Primary: 1, Backup: 2}
	ahead := []api.Record{save(7, 2, "old"), view(9, 1, 2), matched(9), entry(ent(8, 3)), entry(ent(9, 3)), entry(ent(10, 5)), commit(9)}
	left := []api.Entry{ent(8, 3), ent(9, 3), ent(10, 5)}
	for i, of := range []int{2, 3, 3} {
		want := api.Saved{View: v, Matched: 9, Stamp: 7 + i, Of: of, State: "new", Entries: left[i:], Commit: 9}
		says(t, "P7.3: a save", want, append(ahead[:7:7], save(7+i, of, "new"))...)
		for _, other := range []int{0, 1, of - 1, of + 1, 5, most} {
			if other != of {
				stops(t, "P7.3: a save of another view", save(7+i, other, "new"), ahead...)
			}
		}
	}
	for _, stamp := range []int{0, 1, 6, 10, 11, most} {
		for _, of := range []int{0, 2, 3, 5} {
			stops(t, "P7.3: a save outside", save(stamp, of, "new"), ahead...)
		}
	}
	all := append(ahead[:7:7], commit(10), save(10, 5, ""))
	says(t, "P7.3: a save of all", api.Saved{View: v, Matched: 9, Stamp: 10, Of: 5, Commit: 10}, all...)
	stops(t, "P7.3: behind a save of all, below its view", entry(ent(11, 4)), all...)
	on := append(all, entry(ent(11, 5)), entry(ent(12, 6)), commit(12), save(11, 5, "s"), save(11, 5, "t"), save(12, 6, "u"))
	says(t, "P7.3: saves go on", api.Saved{View: v, Matched: 9, Stamp: 12, Of: 6, State: "u", Commit: 12}, on...)
	stops(t, "P7.3: saves do not go back", save(11, 5, "t"), on...)
}

// TestCommits: P7.3, a commit rises, up to the last.
func TestCommits(t *testing.T) {
	ahead := []api.Record{save(7, 2, ""), entry(ent(8, 3)), entry(ent(9, 3)), entry(ent(10, 5))}
	all := []api.Entry{ent(8, 3), ent(9, 3), ent(10, 5)}
	for _, to := range []int{8, 9, 10} {
		says(t, "P7.3: a commit", api.Saved{Stamp: 7, Of: 2, Entries: all, Commit: to}, append(ahead[:4:4], commit(to))...)
	}
	for _, to := range []int{0, 6, 7, 11, most} {
		stops(t, "P7.3: a commit outside", commit(to), ahead...)
	}
	for _, to := range []int{0, 7, 8, 9, 11} {
		stops(t, "P7.3: a commit that does not rise", commit(to), append(ahead[:4:4], commit(8), commit(9))...)
	}
	stops(t, "P7.3: a commit of all once more", commit(10), append(ahead[:4:4], commit(10))...)
}

// TestBehindAMisfit: P7.3, nothing counts behind a record that does not fit, though it would fit.
func TestBehindAMisfit(t *testing.T) {
	good := []api.Record{view(1, 1, 2), entry(ent(1, 1)), entry(ent(2, 1)), commit(1)}
	for i := range len(good) + 1 {
		records := slices.Insert(slices.Clone(good), i, matched(most))
		ahead := disk(t, good[:i]...)
		want, _, _ := journal.Recover(ahead)
		recovers(t, "P7.3: behind a misfit", disk(t, records...), want, i, len(ahead))
	}
}

// TestALongJournal: P7.3, thousands of records, many saves among them.
func TestALongJournal(t *testing.T) {
	records := []api.Record{view(1, 1, 2)}
	for stamp := 1; stamp <= 3000; stamp++ {
		records = append(records, entry(ent(stamp, stamp/100)))
		if stamp > 5 {
			records = append(records, commit(stamp-5))
		}
		if stamp%7 == 0 && stamp > 20 {
			records = append(records, save(stamp-15, (stamp-15)/100, "s"))
		}
	}
	want := api.Saved{View: api.View{Num: 1, Primary: 1, Backup: 2}, Stamp: 2981, Of: 29, State: "s", Commit: 2995}
	for stamp := 2982; stamp <= 3000; stamp++ {
		want.Entries = append(want.Entries, ent(stamp, stamp/100))
	}
	says(t, "P7.3: a long journal", want, records...)
}
