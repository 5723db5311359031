package trie_test

import (
	"slices"
	"testing"

	"herald/api"
	"herald/place"
	"herald/trie"
)

// orders are all orders of some rows.
func orders(rows []row) [][]row {
	if len(rows) == 0 {
		return [][]row{nil}
	}
	var all [][]row
	for i := range rows {
		rest := slices.Concat(rows[:i], rows[i+1:])
		for _, tail := range orders(rest) {
			all = append(all, append([]row{rows[i]}, tail...))
		}
	}
	return all
}

// TestWhateverTheOrder: P9.8, all orders of six watches, and what others came and went meanwhile, make one trie.
func TestWhateverTheOrder(t *testing.T) {
	rows := []row{watch(1, 1, "/", 3, 0), watch(1, 2, "/a", 2, 1), watch(2, 1, "/a", 1, 0), watch(2, 9, "/a/b", 3, 2), watch(10, 1, "/a-b", 1, 0), watch(10, 2, "/a/b", 1, 0)}
	g := &again{rows: rows}
	for i, order := range orders(rows) {
		x := trie.New()
		for j, r := range order {
			adds(t, x, r)
			visits(t, x, 50+j, i%api.MaxDepth)
		}
		g.stands(t, x)
		if i%20 == 0 {
			g.isLike(t, x)
		}
	}
}

// visits adds watches of a session near to the others, and takes them away again, by Drop or by Forget.
func visits(t *testing.T, x *trie.Trie, session, way int) {
	t.Helper()
	rows := []row{watch(session, 1, "/", 1, 0), watch(session, 2, "/a/b/c/d", 1, 0), watch(session, 3, "/a", 3, 0), watch(session, 4, "/z", 3, 0)}[:1+way%4]
	adds(t, x, rows...)
	if way%2 == 0 {
		count(t, "P9.2: Forget", x.Forget(session), len(rows))
		return
	}
	for _, r := range rows {
		is(t, "P9.2: Drop", x.Drop(session, r.watch.Id), api.OK)
	}
}

// TestWatchByWatch: P9.9, Match has just those of Walk whose From is below the stamp and that cover the change, in their order.
func TestWatchByWatch(t *testing.T) {
	for seed := range uint64(60) {
		c := chanceOf(seed, 99)
		x, g := trie.New(), &again{}
		for range 60 {
			both(t, c.call(g), x, g)
		}
		for _, at := range append(somePlaces(), "", "/a/") {
			for kind := 0; kind <= 4; kind++ {
				for _, stamp := range []int{0, 1, 2, 3, most} {
					matches(t, x, stamp, change(kind, at), byWalk(x, stamp, change(kind, at))...)
				}
			}
		}
	}
}

// rowsOf are a trie's watches by what Walk and Of tell.
func rowsOf(x *trie.Trie) []row {
	var all []row
	for at, tag := range x.Walk() {
		for _, w := range x.Of(tag.Session) {
			if w.Id == tag.Id && w.Place == at {
				all = append(all, row{tag.Session, w})
			}
		}
	}
	return all
}

// byWalk is what P9.9 says of Match.
func byWalk(x *trie.Trie, stamp int, c api.Change) []api.Tag {
	var all []api.Tag
	for _, r := range rowsOf(x) {
		if r.watch.From < stamp && place.Covers(r.watch.Kind, r.watch.Place, c.Kind, c.Place) {
			all = append(all, r.tag())
		}
	}
	slices.SortFunc(all, byTags)
	return all
}

// TestSessionsAlone: P9.9, Match of a session's watches is what a trie of these alone answers, and the sessions' together are all.
func TestSessionsAlone(t *testing.T) {
	for seed := range uint64(60) {
		c := chanceOf(seed, 999)
		x, g := trie.New(), &again{}
		for range 60 {
			both(t, c.call(g), x, g)
		}
		alone := map[int]*trie.Trie{}
		for _, r := range g.rows {
			if alone[r.session] == nil {
				alone[r.session] = trie.New()
			}
			adds(t, alone[r.session], r)
		}
		for _, at := range somePlaces() {
			for kind := 1; kind <= 3; kind++ {
				together := x.Match(3, change(kind, at))
				var all []api.Tag
				for session, own := range alone {
					got := own.Match(3, change(kind, at))
					want := slices.DeleteFunc(slices.Clone(together), func(tag api.Tag) bool { return tag.Session != session })
					if !slices.Equal(got, want) {
						t.Fatalf("P9.9: session %d alone matches %v, among others %v", session, got, want)
					}
					all = append(all, got...)
				}
				slices.SortFunc(all, byTags)
				if !slices.Equal(all, together) {
					t.Fatalf("P9.9: one by one %v, together %v", all, together)
				}
			}
		}
	}
}

// TestThereAndBack: P9.8, a trie that is made of what another one tells answers as that does.
func TestThereAndBack(t *testing.T) {
	for seed := range uint64(60) {
		c := chanceOf(seed, 98)
		x, g := trie.New(), &again{}
		for range 80 {
			both(t, c.call(g), x, g)
		}
		rows := rowsOf(x)
		count(t, "P9.6: the watches that Walk tells", len(rows), len(g.rows))
		(&again{rows: rows}).isLike(t, holding(t, rows...))
		walks(t, holding(t, rows...), walked(x)...)
	}
}

// TestRefusedChangesNothing: P9.7, along scripts of refused calls.
func TestRefusedChangesNothing(t *testing.T) {
	for seed := range uint64(40) {
		c := chanceOf(seed, 97)
		x, g := trie.New(), &again{}
		for range 40 {
			both(t, c.call(g), x, g)
		}
		refused := 0
		for range 300 {
			next := c.call(g)
			rest := &again{rows: slices.Clone(g.rows)}
			// Only calls that the other reckoning refuses, or that have nothing to forget, are made.
			if code := next.again(rest); next.kind == "forget" && code > 0 || next.kind != "forget" && code == 0 {
				continue
			}
			next.on(x)
			refused++
			g.stands(t, x)
		}
		g.isLike(t, x)
		if refused < 30 {
			t.Errorf("only %d calls were refused", refused)
		}
	}
}
