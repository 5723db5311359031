package trie_test

import (
	"iter"
	"slices"
	"testing"

	"herald/api"
	"herald/trie"
)

// spread has watches above, below and beside one another, in the order in which Walk tells them.
func spread() []row {
	return []row{
		watch(1, 9, "/", 3, 0),
		watch(3, 1, "/", 1, 0),
		watch(2, 10, "/-", 1, 0),
		watch(1, 3, "/a", 1, 0),
		watch(2, 2, "/a", 2, 0),
		watch(2, 9, "/a", 2, 0),
		watch(10, 1, "/a", 2, 0),
		watch(1, 2, "/a/b/c", 1, 0),
		watch(2, 1, "/a/z", 1, 0),
		watch(3, 4, "/a-b", 1, 0),
		watch(3, 3, "/a-b/a", 1, 0),
		watch(1, 1, "/a.b", 1, 0),
		watch(3, 2, "/ab", 1, 0),
	}
}

// TestWalkOrder: P9.6, by places (in the order of place.Order, not of texts), then sessions, then ids, as numbers.
func TestWalkOrder(t *testing.T) {
	rows := spread()
	want := marks(rows...)
	for seed := range uint64(50) {
		c := chanceOf(seed, 96)
		c.Shuffle(len(rows), func(i, j int) { rows[i], rows[j] = rows[j], rows[i] })
		walks(t, holding(t, rows...), want...)
	}
}

// TestWalkAsFarAsAsked: P9.6 and W1, who stops is handed on nothing more, wherever he stops.
func TestWalkAsFarAsAsked(t *testing.T) {
	rows := spread()
	x := holding(t, rows...)
	for stop := 1; stop <= len(rows); stop++ {
		var got []mark
		x.Walk()(func(at string, tag api.Tag) bool {
			got = append(got, mark{at, tag})
			return len(got) != stop
		})
		if !slices.Equal(got, marks(rows[:stop]...)) {
			t.Errorf("P9.6: stopped at %d: %s", stop, tell(got))
		}
	}
}

// TestWalkAgain: P9.6, one answer of Walk can be ranged over again and again, also behind a range that stopped.
func TestWalkAgain(t *testing.T) {
	walk := holding(t, spread()...).Walk()
	for range walk {
		break
	}
	for range 3 {
		var got []mark
		for at, tag := range walk {
			got = append(got, mark{at, tag})
		}
		if !slices.Equal(got, marks(spread()...)) {
			t.Errorf("P9.6: ranged over again: %s", tell(got))
		}
	}
}

// TestWalkInside: P9.6, ranges inside of one another, of one answer of Walk, do not meet.
func TestWalkInside(t *testing.T) {
	rows := chapterRows()
	x := holding(t, rows...)
	order := marks(rows[2], rows[0], rows[1], rows[3])
	walk := x.Walk()
	var got, want []mark
	for a, tagA := range walk {
		for b, tagB := range walk {
			for c, tagC := range walk {
				got = append(got, mark{a, tagA}, mark{b, tagB}, mark{c, tagC})
			}
			if b == "/a" {
				break
			}
		}
	}
	for _, a := range order {
		for _, b := range order[:2] {
			for _, c := range order {
				want = append(want, a, b, c)
			}
		}
	}
	if !slices.Equal(got, want) {
		t.Errorf("P9.6: ranges inside of one another: %s", tell(got))
	}
}

// TestWalkBeginsLate: P9.6, a range goes through what there is when it begins, not when Walk was called.
func TestWalkBeginsLate(t *testing.T) {
	for _, x := range []*trie.Trie{trie.New(), {}} {
		walk := x.Walk()
		holds := func(want ...row) {
			t.Helper()
			var got []mark
			for at, tag := range walk {
				got = append(got, mark{at, tag})
			}
			if !slices.Equal(got, marks(want...)) {
				t.Errorf("P9.6: %s, want %s", tell(got), tell(want))
			}
		}
		one, two, three := watch(1, 1, "/a", 1, 0), watch(1, 2, "/b", 1, 0), watch(2, 1, "/a/a", 1, 0)
		holds()
		adds(t, x, two)
		holds(two)
		adds(t, x, three, one)
		holds(one, three, two)
		is(t, "P9.2: Drop", x.Drop(2, 1), api.OK)
		holds(one, two)
		count(t, "P9.2: Forget", x.Forget(1), 2)
		holds()
	}
}

// turns are what may be called while a range goes on.
func turns() map[string]func(x *trie.Trie) {
	return map[string]func(x *trie.Trie){
		"added": func(x *trie.Trie) {
			x.Add(7, api.Watch{Id: 1, Place: "/", Kind: 1})
			x.Add(7, api.Watch{Id: 2, Place: "/a/b/c", Kind: 1})
			x.Add(7, api.Watch{Id: 3, Place: "/zz/z", Kind: 1})
			x.Add(4, api.Watch{Id: 3, Place: "/a", Kind: 1})
		},
		"dropped": func(x *trie.Trie) {
			x.Drop(1, 9)
			x.Drop(2, 2)
			x.Drop(1, 2)
			x.Drop(3, 2)
		},
		"forgotten": func(x *trie.Trie) {
			for session := range 11 {
				x.Forget(session)
			}
		},
		"forgotten and others added": func(x *trie.Trie) {
			for session := range 11 {
				for _, w := range x.Of(session) {
					x.Drop(session, w.Id)
					x.Add(session, api.Watch{Id: w.Id, Place: "/a/other", Kind: 3, From: 5})
				}
			}
		},
		"asked": func(x *trie.Trie) {
			x.Match(9, made("/a/b/c"))
			x.Of(1)
			x.Size()
			walked(x)
		},
		"refused": func(x *trie.Trie) {
			x.Add(1, api.Watch{Id: 1, Place: "/a", Kind: 1})
			x.Add(0, api.Watch{})
			x.Drop(8, 8)
			x.Forget(8)
		},
	}
}

// TestWalkWhileTurned: P9.6, whatever is called while a range goes on, it goes through what there was.
func TestWalkWhileTurned(t *testing.T) {
	rows := spread()
	for name, turn := range turns() {
		for at := range rows {
			x := holding(t, rows...)
			var got []mark
			for where, tag := range x.Walk() {
				if len(got) == at {
					turn(x)
				}
				got = append(got, mark{where, tag})
			}
			if !slices.Equal(got, marks(rows...)) {
				t.Errorf("P9.6: %s at %d: %s", name, at, tell(got))
			}
			y := holding(t, rows...)
			turn(y)
			walks(t, x, walked(y)...)
			count(t, "P9.5: Size behind it", x.Size(), y.Size())
		}
	}
}

// TestWalkTurnedInside: P9.6, a range that begins inside of another one, behind a call, goes through what there is then; the outer one does not.
func TestWalkTurnedInside(t *testing.T) {
	rows := []row{watch(1, 1, "/a", 1, 0), watch(1, 2, "/b", 1, 0), watch(1, 3, "/c", 1, 0)}
	x := holding(t, rows...)
	walk := x.Walk()
	var got []mark
	for at, tag := range walk {
		got = append(got, mark{at, tag})
		is(t, "P9.2: Drop", x.Drop(1, tag.Id), api.OK)
		for at, tag := range walk {
			got = append(got, mark{at, tag})
		}
	}
	if want := marks(rows[0], rows[1], rows[2], rows[1], rows[2], rows[2]); !slices.Equal(got, want) {
		t.Errorf("P9.6: %s, want %s", tell(got), tell(want))
	}
}

// TestWalkSideBySide: P9.6, two ranges that take turns go each their own way, each from where it began.
func TestWalkSideBySide(t *testing.T) {
	x := holding(t, watch(1, 1, "/a", 1, 0), watch(1, 2, "/c", 1, 0))
	walk := x.Walk()
	one, stopOne := iter.Pull2(walk)
	defer stopOne()
	var got []mark
	take := func(next func() (string, api.Tag, bool)) {
		if at, tag, more := next(); more {
			got = append(got, mark{at, tag})
		} else {
			got = append(got, mark{})
		}
	}
	take(one)
	adds(t, x, watch(1, 3, "/b", 1, 0))
	is(t, "P9.2: Drop", x.Drop(1, 2), api.OK)
	two, stopTwo := iter.Pull2(walk)
	defer stopTwo()
	take(two)
	x.Forget(1)
	take(one)
	take(two)
	take(one)
	take(two)
	want := []mark{{"/a", tags(1, 1)[0]}, {"/a", tags(1, 1)[0]}, {"/c", tags(1, 2)[0]}, {"/b", tags(1, 3)[0]}, {}, {}}
	if !slices.Equal(got, want) {
		t.Errorf("P9.6: side by side: %s", tell(got))
	}
}
