package shot_test

import (
	"fmt"
	"math"
	"slices"
	"strings"
	"testing"

	"herald/api"
	"herald/shot"
)

// folds holds a fold that can be.
func folds(t *testing.T, s api.Shot, stamp int, changes []api.Change, want ...api.Seen) {
	t.Helper()
	got, code := shot.Fold(s, stamp, changes)
	if code != api.OK || !same(got, shotOf(stamp, s.Place, s.Kind, want...)) {
		t.Errorf("P5.3: Fold(%s, %d, %s) = %s, %d, want %s", tell(s), stamp, tell(changes), tell(got), code, tell(want))
	}
	if shot.Check(got) != api.OK {
		t.Errorf("P5.3, P5.1: Fold(%s, %d, %s) = %s may not be", tell(s), stamp, tell(changes), tell(got))
	}
}

// refusesFold holds an error of Fold, beside which there is no shot.
func refusesFold(t *testing.T, want api.Errno, s api.Shot, stamp int, changes ...api.Change) {
	t.Helper()
	if got, code := shot.Fold(s, stamp, changes); code != want || !isZero(got) {
		t.Errorf("P5.3: Fold(%s, %d, %s) = %s, %d, want %d", tell(s), stamp, tell(changes), tell(got), code, want)
	}
}

func list(changes ...api.Change) []api.Change { return changes }

// TestFoldExamples: P5.3, the document's examples.
func TestFoldExamples(t *testing.T) {
	_, second, third := exampleShots()
	folds(t, third, 6, list(set("/a/b", "w", 1), gone("/a/b/c"), set("/d", "q", 1)), see("/a", "x", 2), see("/a/b", "w", 1))
	refusesFold(t, api.ErrFold, third, 6, gone("/a/b"))
	refusesFold(t, api.ErrFold, third, 6, made("/a/e/f", "", 0))
	folds(t, second, 6, list(set("/a", "q", 3), made("/a/e", "q", 0), gone("/a/b")), bare("/a", "/a/e")...)
	refusesFold(t, api.ErrArg, third, 5)
	folds(t, third, 6, nil, third.Nodes...)
	folds(t, third, 6, []api.Change{}, third.Nodes...)
}

// TestFoldStamps: P5.3, stamps at their edges, and the order of the errors.
func TestFoldStamps(t *testing.T) {
	_, _, third := exampleShots()
	for _, stamp := range []int{6, 7, 1000, most} {
		folds(t, third, stamp, nil, third.Nodes...)
	}
	for _, stamp := range []int{5, 4, 0, -1, most + 1, math.MinInt, math.MaxInt} {
		refusesFold(t, api.ErrArg, third, stamp)
		refusesFold(t, api.ErrArg, third, stamp, gone("/a/b"))
		refusesFold(t, api.ErrShot, api.Shot{}, stamp)
	}
	zero := shotOf(0, "/a", node)
	refusesFold(t, api.ErrArg, zero, 0)
	folds(t, zero, 1, nil)
	last := shotOf(most, "/a", node)
	refusesFold(t, api.ErrArg, last, most)
	refusesFold(t, api.ErrArg, last, most+1)
	refusesFold(t, api.ErrShot, shotOf(most+1, "/a", node), most+2)
	refusesFold(t, api.ErrShot, shotOf(-1, "/a", node), 1)
	refusesFold(t, api.ErrShot, shotOf(5, "/a", node, see("/b", "", 0)), 1, gone("b"))
}

// TestFoldOddChanges: P5.3, a change of no kind, or at no place, can never be; what is none for the shot is left out, whatever it says.
func TestFoldOddChanges(t *testing.T) {
	first, second, third := exampleShots()
	for _, s := range []api.Shot{first, second, third, shotOf(5, "/", node, see("/", "", 0))} {
		for _, at := range []string{"/a", "/z", "/"} {
			for _, kind := range []int{-1, 0, 4, math.MinInt, math.MaxInt} {
				refusesFold(t, api.ErrFold, s, 6, api.Change{Kind: kind, Place: at})
			}
		}
		for _, at := range []string{"", "a", "/a/", "//", "/.", "/a b", strings.Repeat("/a", 7), longPlace + "n", strings.Repeat("/a", 1<<20)} {
			for kind := 1; kind <= 3; kind++ {
				refusesFold(t, api.ErrFold, s, 6, api.Change{Kind: kind, Place: at})
				refusesFold(t, api.ErrFold, s, 6, made("/q", "", 0), api.Change{Kind: kind, Place: at})
			}
		}
	}
	huge := strings.Repeat("x", 1<<20)
	for kind := 1; kind <= 3; kind++ {
		for _, at := range []string{"/", "/d", "/ab", "/a-", "/b/a"} {
			for _, s := range []api.Shot{first, second, third} {
				folds(t, s, 6, list(api.Change{Kind: kind, Place: at, Data: huge, Version: math.MinInt}), s.Nodes...)
			}
		}
		folds(t, first, 6, list(api.Change{Kind: kind, Place: "/a/b", Data: huge, Version: -1}), first.Nodes...)
		folds(t, second, 6, list(api.Change{Kind: kind, Place: "/a/b/c", Data: huge, Version: most + 1}), second.Nodes...)
	}
	folds(t, second, 6, list(set("/a", huge, -1), set("/a/b", huge, -1), set("/a/z", huge, -1)), second.Nodes...)
}

// TestFoldMade: P5.3, what can be made, and what cannot.
func TestFoldMade(t *testing.T) {
	_, second, third := exampleShots()
	folds(t, third, 6, list(made("/a/aa", "n", 3), made("/a/aa/z", "", most), made("/a/b-", longData, 0)),
		see("/a", "x", 2), see("/a/aa", "n", 3), see("/a/aa/z", "", most), see("/a/b", "y", 0), see("/a/b/c", "", 0), see("/a/b-", longData, 0))
	folds(t, shotOf(0, "/a", node), 1, list(made("/a", "n", 4)), see("/a", "n", 4))
	folds(t, shotOf(0, "/a", kids), 1, list(made("/a", "n", 4), made("/a/c", "n", 4), made("/a/b", "n", 4)), bare("/a", "/a/b", "/a/c")...)
	folds(t, shotOf(0, "/a/b", subtree), 1, list(made("/a/b", "n", 4), made("/a/b/c", "m", 5)), see("/a/b", "n", 4), see("/a/b/c", "m", 5))
	for _, s := range []api.Shot{second, third} {
		for _, n := range s.Nodes {
			refusesFold(t, api.ErrFold, s, 6, made(n.Place, n.Data, n.Version))
		}
		refusesFold(t, api.ErrFold, s, 6, made("/a/e", "", 0), made("/a/e", "", 0))
	}
	refusesFold(t, api.ErrFold, shotOf(0, "/", subtree, see("/", "", 0)), 1, made("/", "", 0))
	for _, kind := range []int{kids, subtree} {
		refusesFold(t, api.ErrFold, shotOf(0, "/a", kind), 1, made("/a/b", "", 0))
		refusesFold(t, api.ErrFold, shotOf(0, "/a", kind), 1, made("/a/b", "", 0), made("/a", "", 0))
	}
	refusesFold(t, api.ErrFold, third, 6, made("/a/b/d/e", "", 0))
}

// TestFoldSizes: P5.3, data and versions at their edges; of WatchKids they are looked at too, though they are not kept.
func TestFoldSizes(t *testing.T) {
	first, second, third := exampleShots()
	for _, version := range []int{-1, most + 1, math.MinInt, math.MaxInt} {
		refusesFold(t, api.ErrFold, third, 6, made("/a/e", "", version))
		refusesFold(t, api.ErrFold, third, 6, set("/a/b", "", version))
		refusesFold(t, api.ErrFold, second, 6, made("/a/e", "", version))
		refusesFold(t, api.ErrFold, first, 6, set("/a", "", version))
	}
	for _, data := range []string{longData + "x", strings.Repeat("x", 1<<20)} {
		refusesFold(t, api.ErrFold, third, 6, made("/a/e", data, 0))
		refusesFold(t, api.ErrFold, third, 6, set("/a/b", data, 0))
		refusesFold(t, api.ErrFold, second, 6, made("/a/e", data, 0))
		refusesFold(t, api.ErrFold, first, 6, set("/a", data, 0))
	}
	folds(t, second, 6, list(made("/a/e", longData, most)), bare("/a", "/a/b", "/a/e")...)
	folds(t, first, 6, list(set("/a", longData, most)), see("/a", longData, most))
}

// TestFoldSet: P5.3, what is set and what cannot be; a version may stay, or fall.
func TestFoldSet(t *testing.T) {
	first, _, third := exampleShots()
	folds(t, first, 6, list(set("/a", "", 0)), see("/a", "", 0))
	folds(t, first, 6, list(set("/a", "x", 2), set("/a", "y", 9), set("/a", "z", 1)), see("/a", "z", 1))
	folds(t, third, 6, list(set("/a/b/c", "c", 3)), see("/a", "x", 2), see("/a/b", "y", 0), see("/a/b/c", "c", 3))
	folds(t, shotOf(0, "/", node, see("/", "", 0)), 1, list(set("/", "r", 1)), see("/", "r", 1))
	refusesFold(t, api.ErrFold, third, 6, set("/a/e", "", 0))
	refusesFold(t, api.ErrFold, third, 6, set("/a/b/c/d", "", 0))
	refusesFold(t, api.ErrFold, shotOf(0, "/a", node), 1, set("/a", "", 0))
	refusesFold(t, api.ErrFold, third, 6, gone("/a/b/c"), set("/a/b/c", "", 0))
}

// TestFoldGone: P5.3, what goes and what cannot; data and version of such a change are not looked at.
func TestFoldGone(t *testing.T) {
	first, second, third := exampleShots()
	folds(t, third, 6, list(gone("/a/b/c"), gone("/a/b"), gone("/a")))
	folds(t, second, 6, list(gone("/a/b"), gone("/a")))
	folds(t, first, 6, list(gone("/a")))
	folds(t, first, 6, list(gone("/a"), made("/a", "n", 0)), see("/a", "n", 0))
	folds(t, third, 6, list(api.Change{Kind: api.ChangeGone, Place: "/a/b/c", Data: strings.Repeat("x", 1<<20), Version: math.MinInt}), third.Nodes[:2]...)
	for _, s := range []api.Shot{second, third} {
		refusesFold(t, api.ErrFold, s, 6, gone("/a"))
		refusesFold(t, api.ErrFold, s, 6, gone("/a/e"))
	}
	refusesFold(t, api.ErrFold, shotOf(0, "/a", node), 1, gone("/a"))
	refusesFold(t, api.ErrFold, first, 6, gone("/a"), gone("/a"))
	for _, kind := range []int{node, kids, subtree} {
		refusesFold(t, api.ErrFold, shotOf(0, "/", kind, see("/", "", 0)), 1, gone("/"))
	}
	beside := shotOf(0, "/a", subtree, bare("/a", "/a/b", "/a/b-", "/a/b-/c", "/a/bb")...)
	folds(t, beside, 1, list(gone("/a/b")), bare("/a", "/a/b-", "/a/b-/c", "/a/bb")...)
	refusesFold(t, api.ErrFold, beside, 1, gone("/a/b-"))
	folds(t, beside, 1, list(gone("/a/bb")), bare("/a", "/a/b", "/a/b-", "/a/b-/c")...)
}

// TestFoldMany: P5.3, the most nodes and one more, and long lists of changes.
func TestFoldMany(t *testing.T) {
	for _, kind := range []int{kids, subtree} {
		full := row(kind, 5, "/a", "x", 2, api.MaxNodes)
		less := row(kind, 5, "/a", "x", 2, api.MaxNodes-1)
		lastPlace := full.Nodes[api.MaxNodes-1].Place
		folds(t, less, 6, list(made(lastPlace, "x", 2)), full.Nodes...)
		refusesFold(t, api.ErrFold, full, 6, made("/a/more", "", 0))
		refusesFold(t, api.ErrFold, less, 6, made("/a/more", "", 0), made("/a/most", "", 0))
		folds(t, full, 6, list(gone(lastPlace), made(lastPlace, "x", 2)), full.Nodes...)
		folds(t, full, 6, list(made("/b", "", 0)), full.Nodes...)
	}
	var changes []api.Change
	want := bare("/a")
	for i := range api.MaxNodes - 1 {
		at := fmt.Sprintf("/a/%03d", (i*37)%(api.MaxNodes-1))
		changes = append(changes, made(at, "", 0), set(at, "s", 1), gone(at), made(at, "m", 2))
		want = append(want, see(fmt.Sprintf("/a/%03d", i), "m", 2))
	}
	folds(t, shotOf(0, "/a", subtree, bare("/a")...), 1, changes, want...)
	folds(t, shotOf(0, "/a", node, see("/a", "", 0)), 1, append(slices.Repeat(list(set("/a", "x", 1), gone("/b")), 20000), set("/a", "y", 2)), see("/a", "y", 2))
}

// TestFoldAgain: P5.3, many shots and changes, held against the second reckoning.
func TestFoldAgain(t *testing.T) {
	c := chanceOf(2, 5)
	tally := map[api.Errno]int{}
	for range 60000 {
		s := c.shot(c.place(), c.kind())
		if c.IntN(20) == 0 {
			s = c.spoiled(s)
		}
		stamp := s.Stamp + pick(c, 1, 1, 1, 1, 1, 0, -1, 7)
		var changes []api.Change
		for range c.IntN(5) {
			changes = append(changes, c.change())
		}
		want, wantCode := foldAgain(s, stamp, changes)
		got, code := shot.Fold(s, stamp, changes)
		if code != wantCode || !same(got, want) {
			t.Fatalf("P5.3: Fold(%+v, %d, %+v) = %+v, %d, want %+v, %d", s, stamp, changes, got, code, want, wantCode)
		}
		tally[code]++
	}
	for _, code := range []api.Errno{api.OK, api.ErrShot, api.ErrArg, api.ErrFold} {
		if tally[code] < 500 {
			t.Errorf("too few of the code %d: %v", code, tally)
		}
	}
}
