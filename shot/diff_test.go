package shot_test

import (
	"slices"
	"testing"

	"herald/api"
	"herald/shot"
)

// differs holds what Diff tells of two shots.
func differs(t *testing.T, a, b api.Shot, want ...api.Change) {
	t.Helper()
	if got, code := shot.Diff(a, b); code != api.OK || !slices.Equal(got, want) {
		t.Errorf("P5.4: Diff(%s, %s) = %s, %d, want %s", tell(a), tell(b), tell(got), code, tell(want))
	}
}

func refusesDiff(t *testing.T, want api.Errno, a, b api.Shot) {
	t.Helper()
	if got, code := shot.Diff(a, b); code != want || len(got) != 0 {
		t.Errorf("P5.4: Diff(%s, %s) = %s, %d, want %d", tell(a), tell(b), tell(got), code, want)
	}
}

// TestDiff: P5.4, the example, and shots of every kind.
func TestDiff(t *testing.T) {
	first, second, third := exampleShots()
	differs(t, third, shotOf(1, "/a", subtree, see("/a", "x", 3), see("/a/e", "", 0)), gone("/a/b/c"), gone("/a/b"), set("/a", "x", 3), made("/a/e", "", 0))
	differs(t, first, shotOf(0, "/a", node), gone("/a"))
	differs(t, shotOf(0, "/a", node), first, made("/a", "x", 2))
	differs(t, first, shotOf(0, "/a", node, see("/a", "x", 1)), set("/a", "x", 1))
	differs(t, first, shotOf(0, "/a", node, see("/a", "y", 2)), set("/a", "y", 2))
	differs(t, second, shotOf(0, "/a", kids), gone("/a/b"), gone("/a"))
	differs(t, shotOf(0, "/a", kids), second, made("/a", "", 0), made("/a/b", "", 0))
	differs(t, second, shotOf(0, "/a", kids, bare("/a", "/a/a", "/a/c")...), gone("/a/b"), made("/a/a", "", 0), made("/a/c", "", 0))
	differs(t, shotOf(0, "/a", subtree), third, made("/a", "x", 2), made("/a/b", "y", 0), made("/a/b/c", "", 0))
	differs(t, third, shotOf(0, "/a", subtree), gone("/a/b/c"), gone("/a/b"), gone("/a"))
	differs(t, shotOf(0, "/a", subtree), shotOf(0, "/a", subtree))
	a := shotOf(0, "/", subtree, see("/", "", 0), see("/a", "", 1), see("/b", "x", 0), see("/b/c", "", 0), see("/b-", "", 0), see("/d", "", 0), see("/e", "", 0))
	b := shotOf(0, "/", subtree, see("/", "r", 0), see("/b", "x", 0), see("/b/a", "n", 0), see("/b/c", "", 4), see("/c", "", 0), see("/e", "", 0), see("/f", "", 7))
	differs(t, a, b, gone("/d"), gone("/b-"), gone("/a"), set("/", "r", 0), made("/b/a", "n", 0), set("/b/c", "", 4), made("/c", "", 0), made("/f", "", 7))
	differs(t, b, a, gone("/f"), gone("/c"), gone("/b/a"), set("/", "", 0), made("/a", "", 1), set("/b/c", "", 0), made("/b-", "", 0), made("/d", "", 0))
}

// TestDiffOfOne: P5.4 and P5.9, of shots that are the same, whatever their stamps, nothing is told.
func TestDiffOfOne(t *testing.T) {
	for _, s := range samples() {
		for _, stamp := range []int{0, 5, most} {
			other := s
			other.Stamp = stamp
			differs(t, s, other)
		}
	}
}

// TestDiffRefuses: P5.4, shots that may not be, ahead of places and kinds that are not the same.
func TestDiffRefuses(t *testing.T) {
	first, second, third := exampleShots()
	none := []api.Shot{{}, shotOf(-1, "/a", node), shotOf(0, "/", node), shotOf(0, "/a", 4), shotOf(0, "/a", subtree, bare("/a/b")...), row(subtree, 0, "/a", "", 0, api.MaxNodes+1)}
	for _, bad := range none {
		refusesDiff(t, api.ErrShot, bad, bad)
		for _, s := range []api.Shot{first, second, third} {
			refusesDiff(t, api.ErrShot, s, bad)
			refusesDiff(t, api.ErrShot, bad, s)
		}
	}
	all := []api.Shot{first, second, third, shotOf(0, "/b", node), shotOf(0, "/b", subtree), shotOf(0, "/b", kids), shotOf(0, "/", node, see("/", "", 0))}
	for i, a := range all {
		for k, b := range all {
			if i != k {
				refusesDiff(t, api.ErrArg, a, b)
			}
		}
	}
}

// TestDiffFull: P5.4 and P5.9, the greatest shots, all of whose nodes are others.
func TestDiffFull(t *testing.T) {
	for _, a := range greatest() {
		b := shotOf(1, a.Place, a.Kind, a.Nodes[0])
		for _, n := range a.Nodes[1:] {
			n.Place = n.Place[:len(n.Place)-3] + "-" + n.Place[len(n.Place)-2:]
			b.Nodes = append(b.Nodes, n)
		}
		for _, pair := range [][2]api.Shot{{a, b}, {b, a}} {
			want, _ := diffAgain(pair[0], pair[1])
			if len(want) != 2*(len(a.Nodes)-1) {
				t.Fatalf("%d changes", len(want))
			}
			differs(t, pair[0], pair[1], want...)
			from := pair[0]
			from.Stamp = 0
			folds(t, from, most, want, pair[1].Nodes...)
		}
	}
}

// TestDiffAgain: P5.4, many shots, held against the second reckoning.
func TestDiffAgain(t *testing.T) {
	c := chanceOf(3, 5)
	tally := map[api.Errno]int{}
	for range 40000 {
		at, kind := c.place(), c.kind()
		a, b := c.shot(at, kind), c.shot(at, kind)
		switch c.IntN(20) {
		case 0:
			a = c.spoiled(a)
		case 1:
			b = c.spoiled(b)
		case 2:
			b = c.shot(c.place(), c.kind())
		}
		want, wantCode := diffAgain(a, b)
		got, code := shot.Diff(a, b)
		if code != wantCode || !slices.Equal(got, want) {
			t.Fatalf("P5.4: Diff(%+v, %+v) = %+v, %d, want %+v, %d", a, b, got, code, want, wantCode)
		}
		tally[code]++
	}
	for _, code := range []api.Errno{api.OK, api.ErrShot, api.ErrArg} {
		if tally[code] < 500 {
			t.Errorf("too few of the code %d: %v", code, tally)
		}
	}
}
