package trie_test

import (
	"fmt"
	"math"
	"slices"
	"strings"
	"testing"

	"herald/api"
	"herald/trie"
)

// TestExamples: the chapter's examples, line by line.
func TestExamples(t *testing.T) {
	rows := chapterRows()
	x := holding(t, rows...)
	matches(t, x, 9, set("/a"), tags(1, 1, 2, 1)...)
	matches(t, x, 9, made("/a"), tags(1, 1, 1, 2, 2, 1)...)
	matches(t, x, 9, gone("/a/b"), tags(1, 2, 2, 1)...)
	matches(t, x, 9, set("/a/b"), tags(2, 1)...)
	matches(t, x, 9, set("/a/b/c"), tags(2, 1, 2, 7)...)
	matches(t, x, 5, set("/a/b/c"), tags(2, 7)...)
	matches(t, x, 6, made("/"), tags(2, 1)...)
	matches(t, x, 9, change(4, "/a"))
	matches(t, x, 9, set("a"))
	count(t, "P9.5: Size", x.Size(), 4)
	has(t, x, 2, rows[2].watch, rows[3].watch)
	walks(t, x, marks(rows[2], rows[0], rows[1], rows[3])...)
	is(t, "P9.1: an id that is there", x.Add(1, api.Watch{Id: 2, Place: "/x", Kind: api.WatchNode}), api.ErrWatch)
	is(t, "P9.1: no place", x.Add(1, api.Watch{Id: 2, Place: "x", Kind: 4}), api.ErrPlace)
	is(t, "P9.1: no session", x.Add(0, api.Watch{Id: 2, Place: "x", Kind: 4}), api.ErrNumber)
	is(t, "P9.2: Drop(2, 7)", x.Drop(2, 7), api.OK)
	count(t, "P9.5: Size behind it", x.Size(), 2)
	is(t, "P9.2: Drop(2, 7) again", x.Drop(2, 7), api.ErrWatch)
	count(t, "P9.2: Forget(2)", x.Forget(2), 1)
	count(t, "P9.5: Size behind it", x.Size(), 2)
	count(t, "P9.2: Forget(2) again", x.Forget(2), 0)
}

// TestNumbers: P9.1, every number at the ends, in each of the three places and in all of them.
func TestNumbers(t *testing.T) {
	for _, session := range ends() {
		for _, id := range ends() {
			for _, from := range ends() {
				x, r := trie.New(), watch(session, id, "/a", api.WatchNode, from)
				want := api.ErrNumber
				if session >= 1 && session <= most && id >= 1 && id <= most && from >= 0 && from <= most {
					want = api.OK
				}
				is(t, "P9.1: Add of "+tell(r), x.Add(r.session, r.watch), want)
				if want == api.OK {
					has(t, x, session, r.watch)
					walks(t, x, r.mark())
					continue
				}
				has(t, x, session)
				walks(t, x)
				count(t, "P9.7: Size of a trie that refused", x.Size(), 1)
			}
		}
	}
}

// TestPlaces: P9.1, places of every sort are taken, texts that are none are not.
func TestPlaces(t *testing.T) {
	for _, at := range somePlaces() {
		x, r := trie.New(), watch(1, 1, at, api.WatchSubtree, 0)
		is(t, fmt.Sprintf("P9.1: Add at %q", at), x.Add(1, r.watch), api.OK)
		walks(t, x, r.mark())
		count(t, fmt.Sprintf("P9.5: Size with %q", at), x.Size(), 1+len(above(at)))
	}
	for _, at := range noPlaces() {
		x := trie.New()
		is(t, fmt.Sprintf("P9.1: Add at %.40q", at), x.Add(1, api.Watch{Id: 1, Place: at, Kind: api.WatchNode}), api.ErrPlace)
		count(t, "P9.7: Size of a trie that refused", x.Size(), 1)
		walks(t, x)
	}
}

// TestKinds: P9.1, there are three kinds of watches.
func TestKinds(t *testing.T) {
	for _, kind := range append(ends(), 3, 4, 5) {
		x, r := trie.New(), watch(1, 1, "/a", kind, 0)
		if kind >= 1 && kind <= 3 {
			is(t, "P9.1: Add of "+tell(r), x.Add(1, r.watch), api.OK)
			has(t, x, 1, r.watch)
			continue
		}
		is(t, "P9.1: Add of "+tell(r), x.Add(1, r.watch), api.ErrWatch)
		count(t, "P9.7: Size of a trie that refused", x.Size(), 1)
	}
}

// TestOrderOfErrors: P9.1, whatever comes together, the first reason is told, and nothing changes.
func TestOrderOfErrors(t *testing.T) {
	full := []row{watch(1, 1, "/a", 1, 0), watch(1, 2, "/a", 2, 0), watch(1, 3, "/b", 3, 0), watch(1, 4, "/", 3, 0)}
	for _, rows := range [][]row{nil, full[:1], full[:3], full} {
		g := &again{rows: rows}
		x := holding(t, rows...)
		for _, session := range []int{0, 1, 2, most + 1} {
			for _, id := range []int{0, 1, 4, 5, most + 1} {
				for _, from := range []int{-1, 0, most + 1} {
					for _, at := range []string{"/a", "/new", "no", "", strings.Repeat("/a", 100)} {
						for kind := 0; kind <= 4; kind++ {
							r := watch(session, id, at, kind, from)
							want := (&again{rows: slices.Clone(rows)}).adds(r)
							is(t, "P9.1: Add of "+tell(r), x.Add(r.session, r.watch), want)
							if want == api.OK {
								is(t, "P9.2: Drop of "+tell(r), x.Drop(session, id), api.OK)
							}
							g.stands(t, x)
						}
					}
				}
			}
		}
	}
}

// TestFull: P9.1, a session has at most MaxWatches watches, whatever their places are; other sessions are not asked, and who drops one may add one.
func TestFull(t *testing.T) {
	for _, places := range [][]string{{"/"}, {"/a"}, {"/", "/a", "/a/b", "/b"}} {
		x := trie.New()
		for session := 1; session <= 40; session++ {
			for id := api.MaxWatches; id >= 1; id-- {
				is(t, "P9.1: Add", x.Add(session, api.Watch{Id: id, Place: places[id%len(places)], Kind: 1}), api.OK)
			}
			is(t, "P9.1: one more", x.Add(session, api.Watch{Id: 5, Place: "/new", Kind: 1}), api.ErrFull)
			is(t, "P9.1: one that is there", x.Add(session, api.Watch{Id: 2, Place: "/new", Kind: 1}), api.ErrWatch)
			is(t, "P9.2: Drop", x.Drop(session, 3), api.OK)
			is(t, "P9.1: in its place", x.Add(session, api.Watch{Id: 5, Place: "/new", Kind: 1}), api.OK)
			is(t, "P9.1: one more again", x.Add(session, api.Watch{Id: 3, Place: "/new", Kind: 1}), api.ErrFull)
		}
		count(t, "P9.2: Forget", x.Forget(7), 4)
		is(t, "P9.1: behind Forget", x.Add(7, api.Watch{Id: 5, Place: "/new", Kind: 1}), api.OK)
	}
}

// TestSameIds: P9.1, watches are told apart by session and id: one id of two sessions is two watches, one place and kind may be watched twice.
func TestSameIds(t *testing.T) {
	rows := []row{watch(1, 1, "/a", 1, 0), watch(1, 2, "/a", 1, 0), watch(2, 1, "/a", 1, 0), watch(2, 2, "/a", 1, 0)}
	x := holding(t, rows...)
	matches(t, x, 1, set("/a"), tags(1, 1, 1, 2, 2, 1, 2, 2)...)
	is(t, "P9.2: Drop(2, 1)", x.Drop(2, 1), api.OK)
	matches(t, x, 1, set("/a"), tags(1, 1, 1, 2, 2, 2)...)
	count(t, "P9.2: Forget(1)", x.Forget(1), 2)
	matches(t, x, 1, set("/a"), tags(2, 2)...)
	// A number that is a session's is no id for all that.
	y := holding(t, watch(3, 8, "/a", 1, 0))
	is(t, "P9.2: Drop(8, 3)", y.Drop(8, 3), api.ErrWatch)
	count(t, "P9.2: Forget(8)", y.Forget(8), 0)
	walks(t, y, mark{"/a", api.Tag{Session: 3, Id: 8}})
}

// TestNoSuchWatch: P9.2, Drop of what is not there says so, at all numbers, and changes nothing; Forget tells 0.
func TestNoSuchWatch(t *testing.T) {
	rows := []row{watch(1, 1, "/a/b", 1, 0), watch(1, 2, "/a", 1, 0), watch(most, most, "/a/b/c", 3, 0)}
	g := &again{rows: rows}
	x := holding(t, rows...)
	for _, session := range ends() {
		for _, id := range append(ends(), 3) {
			if !g.has(api.Tag{Session: session, Id: id}) {
				is(t, fmt.Sprintf("P9.2: Drop(%d, %d)", session, id), x.Drop(session, id), api.ErrWatch)
			}
		}
		if session != 1 && session != most {
			count(t, fmt.Sprintf("P9.2: Forget(%d)", session), x.Forget(session), 0)
			has(t, x, session)
		}
	}
	g.isLike(t, x)
	is(t, "P9.2: Drop at the ends", x.Drop(most, most), api.OK)
	has(t, x, most)
	count(t, "P9.2: Forget of none", x.Forget(most), 0)
}

// TestForget: P9.2, all of one session go, wherever they are, and no other.
func TestForget(t *testing.T) {
	for own := 0; own <= api.MaxWatches; own++ {
		places := []string{"/a/b", "/", "/a", "/c/d/e"}
		g := &again{rows: []row{watch(6, 1, "/a/b", 1, 0), watch(8, 1, "/c", 3, 0)}}
		for id := 1; id <= own; id++ {
			g.rows = append(g.rows, watch(7, id*10, places[id-1], 1+id%3, id))
		}
		x := holding(t, g.rows...)
		count(t, "P9.2: Forget(7)", x.Forget(7), own)
		count(t, "P9.2: Forget(7) by the other reckoning", g.forgets(7), own)
		g.isLike(t, x)
		count(t, "P9.2: Forget(7) again", x.Forget(7), 0)
		g.isLike(t, x)
	}
}

// TestMatchKinds: P9.3, every kind of watch at every place, for every kind of change at every place.
func TestMatchKinds(t *testing.T) {
	texts := append(somePlaces(), noPlaces()...)
	for _, at := range somePlaces() {
		for kind := 1; kind <= 3; kind++ {
			r := watch(3, 5, at, kind, 0)
			x, g := holding(t, r), &again{rows: []row{r}}
			for _, changed := range texts {
				for of := -1; of <= 5; of++ {
					matches(t, x, 1, change(of, changed), g.matches(1, change(of, changed))...)
				}
			}
		}
	}
}

// TestMatchStamps: P9.3, only a From below the stamp counts, at all numbers.
func TestMatchStamps(t *testing.T) {
	for _, from := range []int{0, 1, 2, 1000, most - 1, most} {
		for kind := 1; kind <= 3; kind++ {
			x := holding(t, watch(1, 1, "/a", kind, from))
			for _, stamp := range append(ends(), from-1, from, from+1) {
				var want []api.Tag
				if stamp > from {
					want = tags(1, 1)
				}
				matches(t, x, stamp, made("/a"), want...)
			}
		}
	}
}

// TestMatchAsksKindAndPlaceAlone: P9.3, what else a change has is not asked, whatever it is.
func TestMatchAsksKindAndPlaceAlone(t *testing.T) {
	x := holding(t, chapterRows()...)
	for _, data := range []string{"", "/a", "\x00\xff", strings.Repeat("x", 100000)} {
		for _, version := range ends() {
			matches(t, x, 9, api.Change{Kind: api.ChangeGone, Place: "/a", Data: data, Version: version}, tags(1, 1, 1, 2, 2, 1)...)
		}
	}
	for _, kind := range ends() {
		if kind < 1 || kind > 3 {
			matches(t, x, most, change(kind, "/a"))
		}
	}
}

// TestMatchOrder: P9.3, by sessions, then ids, as numbers, wherever on the way down the watches are; each once.
func TestMatchOrder(t *testing.T) {
	way := append(above("/a/b/c/d/e/f"), "/a/b/c/d/e/f")
	var want []api.Tag
	x := trie.New()
	for i, session := range []int{9, 10, 2, 100, most, 1, 11} {
		for j, id := range []int{10, 9, most, 1} {
			adds(t, x, watch(session, id, way[(i+j*3)%len(way)], api.WatchSubtree, 0))
			want = append(want, api.Tag{Session: session, Id: id})
		}
	}
	slices.SortFunc(want, byTags)
	matches(t, x, 1, set("/a/b/c/d/e/f"), want...)
	if want[0] != (api.Tag{Session: 1, Id: 1}) || want[27] != (api.Tag{Session: most, Id: most}) {
		t.Errorf("P9.3: the order is %v", want)
	}
}

// TestOf: P9.4, a session's watches by ids, just as they were added.
func TestOf(t *testing.T) {
	rows := []row{watch(5, most, "/", 3, most), watch(5, 1, deepest(), 1, 0), watch(5, 10, "/a", 2, 7), watch(5, 9, "/a", 2, 7)}
	x := holding(t, append(rows, watch(4, 1, "/a", 1, 1), watch(6, 2, "/a", 1, 1))...)
	has(t, x, 5, rows[1].watch, rows[3].watch, rows[2].watch, rows[0].watch)
	is(t, "P9.2: Drop(5, 9)", x.Drop(5, 9), api.OK)
	has(t, x, 5, rows[1].watch, rows[2].watch, rows[0].watch)
	for _, session := range append(ends(), 3, 7) {
		has(t, x, session)
	}
	has(t, x, 4, api.Watch{Id: 1, Place: "/a", Kind: 1, From: 1})
}

// TestNoBranchStays: P9.5, what is dropped or forgotten leaves no node behind, but what another watch needs stays.
func TestNoBranchStays(t *testing.T) {
	x := trie.New()
	count(t, "P9.5: Size without watches", x.Size(), 1)
	adds(t, x, watch(1, 1, "/", 1, 0))
	count(t, "P9.5: Size with the root watched", x.Size(), 1)
	adds(t, x, watch(1, 2, "/a/b/c/d/e/f", 1, 0))
	count(t, "P9.5: Size with a deep one", x.Size(), 7)
	adds(t, x, watch(2, 1, "/a/b/c", 1, 0), watch(2, 2, "/a/b/c", 2, 0), watch(2, 3, "/a/b/x/y", 1, 0))
	count(t, "P9.5: Size with a branch", x.Size(), 9)
	for _, step := range []struct {
		session, id, size int
	}{{1, 2, 6}, {2, 1, 6}, {2, 2, 5}, {1, 1, 5}, {2, 3, 1}} {
		is(t, "P9.2: Drop", x.Drop(step.session, step.id), api.OK)
		count(t, fmt.Sprintf("P9.5: Size behind Drop(%d, %d)", step.session, step.id), x.Size(), step.size)
	}
	walks(t, x)
}

// TestMany: P9.2 to P9.6, a great many sessions at places of their own and at one place.
func TestMany(t *testing.T) {
	const sessions = 20000
	x := trie.New()
	for i := range sessions {
		session := 1 + i*7919%sessions
		own := fmt.Sprintf("/own/n%d", session)
		adds(t, x, watch(session, 4, own, api.WatchNode, 0), watch(session, 3, "/all", api.WatchKids, session))
	}
	count(t, "P9.5: Size", x.Size(), 3+sessions)
	count(t, "P9.6: what Walk hands on", len(walked(x)), 2*sessions)
	matches(t, x, 1, set("/own/n17"), tags(17, 4)...)
	got := x.Match(sessions/2+1, made("/all/x"))
	if len(got) != sessions/2 || !slices.IsSortedFunc(got, byTags) || got[0] != tags(1, 3)[0] {
		t.Errorf("P9.3: Match has %d watches", len(got))
	}
	for session := sessions; session >= 1; session-- {
		count(t, "P9.2: Forget", x.Forget(session), 2)
	}
	count(t, "P9.5: Size of what is left", x.Size(), 1)
	walks(t, x)
}

// empties are the tries without a watch.
func empties(t *testing.T) map[string]*trie.Trie {
	t.Helper()
	emptied := holding(t, chapterRows()...)
	emptied.Forget(2)
	emptied.Drop(1, 2)
	emptied.Drop(1, 1)
	return map[string]*trie.Trie{"a new trie": trie.New(), "a zero trie": {}, "a nil trie": nil, "an emptied trie": emptied}
}

// TestNothing: P9.1 to P9.6, what tries without a watch answer, at all numbers.
func TestNothing(t *testing.T) {
	for name, x := range empties(t) {
		for _, n := range ends() {
			is(t, name+": Drop", x.Drop(n, n), api.ErrWatch)
			count(t, name+": Forget", x.Forget(n), 0)
			has(t, x, n)
			for _, at := range append(somePlaces(), noPlaces()...) {
				matches(t, x, n, made(at))
				matches(t, x, n, change(n, at))
			}
		}
		walks(t, x)
		size := 1
		if x == nil {
			size = 0
		}
		count(t, "P9.5: Size of "+name, x.Size(), size)
	}
}

// TestNilAdds: P9.1, a nil trie says ErrFull in the place of OK, and every other error as other tries do.
func TestNilAdds(t *testing.T) {
	var none *trie.Trie
	for _, session := range ends() {
		for _, id := range ends() {
			for _, at := range []string{"/", "/a/b", "", "/a/", strings.Repeat("/a", 60)} {
				for _, kind := range []int{math.MinInt, 0, 1, 2, 3, 4} {
					for _, from := range []int{-1, 0, most, most + 1} {
						r := watch(session, id, at, kind, from)
						want := (&again{}).adds(r)
						if want == api.OK {
							want = api.ErrFull
						}
						is(t, "P9.1: Add to a nil trie of "+tell(r), none.Add(r.session, r.watch), want)
					}
				}
			}
		}
	}
	count(t, "P9.5: Size of a nil trie", none.Size(), 0)
	walks(t, none)
}

// TestEmptyTriesTakeWatches: P9.1, a new, a zero and an emptied trie go on alike.
func TestEmptyTriesTakeWatches(t *testing.T) {
	for name, x := range empties(t) {
		if x == nil {
			continue
		}
		g := &again{rows: chapterRows()}
		adds(t, x, chapterRows()...)
		g.isLike(t, x)
		if t.Failed() {
			t.Fatalf("P9.1: %s", name)
		}
	}
}

// TestTwoTries: P9.8, tries do not touch one another.
func TestTwoTries(t *testing.T) {
	x, y := holding(t, chapterRows()...), trie.New()
	count(t, "P9.5: Size of the other trie", y.Size(), 1)
	adds(t, y, watch(1, 1, "/z", 1, 0))
	x.Forget(1)
	(&again{rows: []row{watch(1, 1, "/z", 1, 0)}}).isLike(t, y)
	(&again{rows: chapterRows()[2:]}).isLike(t, x)
}
