package shot_test

import (
	"math"
	"slices"
	"strings"
	"testing"

	"herald/api"
	"herald/shot"
	"herald/tree"
)

// refusesTake holds an error of Take, beside which there is no shot.
func refusesTake(t *testing.T, x *tree.Tree, stamp int, at string, kind int, want api.Errno) {
	t.Helper()
	if s, code := shot.Take(x, stamp, at, kind); code != want || !isZero(s) {
		t.Errorf("P5.2: Take(%d, %.120q, %d) = %v, %d, want %d", stamp, at, kind, s, code, want)
	}
}

// TestTake: P5.2, the examples and every part of a small tree.
func TestTake(t *testing.T) {
	x := exampleTree(t)
	first, second, third := exampleShots()
	for _, want := range []api.Shot{
		first, second, third,
		shotOf(5, "/z", subtree), shotOf(5, "/z", kids), shotOf(5, "/z", node), shotOf(5, "/a/z", subtree),
		shotOf(0, "/", node, see("/", "", 0)),
		shotOf(most, "/", kids, bare("/", "/a", "/d")...),
		shotOf(1, "/", subtree, see("/", "", 0), see("/a", "x", 2), see("/a/b", "y", 0), see("/a/b/c", "", 0), see("/d", "", 0)),
		shotOf(2, "/a/b", kids, bare("/a/b", "/a/b/c")...),
		shotOf(2, "/a/b/c", kids, bare("/a/b/c")...),
		shotOf(2, "/a/b", node, see("/a/b", "y", 0)),
	} {
		if s := takes(t, x, want.Stamp, want.Place, want.Kind); !same(s, want) || shot.Check(s) != api.OK {
			t.Errorf("P5.2: Take(%d, %q, %d) = %v, want %v", want.Stamp, want.Place, want.Kind, s, want)
		}
	}
}

// TestTakeRefuses: P5.2, the errors in their order.
func TestTakeRefuses(t *testing.T) {
	x := exampleTree(t)
	refusesTake(t, x, -1, "z", 0, api.ErrArg)
	refusesTake(t, x, 0, "z", 0, api.ErrPlace)
	refusesTake(t, x, 0, "/z", 0, api.ErrArg)
	for _, stamp := range []int{-1, most + 1, math.MinInt, math.MaxInt} {
		refusesTake(t, x, stamp, "/a", node, api.ErrArg)
		refusesTake(t, x, stamp, "a", 9, api.ErrArg)
	}
	for _, at := range []string{"", "a", "/a/", "//", "/.", "/a b", strings.Repeat("/a", 7), longPlace + "n", strings.Repeat("/a", 1<<20)} {
		refusesTake(t, x, 0, at, node, api.ErrPlace)
		refusesTake(t, x, most, at, 4, api.ErrPlace)
	}
	for _, kind := range []int{-1, 0, 4, math.MinInt, math.MaxInt} {
		refusesTake(t, x, 0, "/a", kind, api.ErrArg)
		refusesTake(t, x, 0, "/z", kind, api.ErrArg)
	}
}

// TestTakeOfNoTree: P5.2 and P4.10, a tree that nobody made.
func TestTakeOfNoTree(t *testing.T) {
	for _, x := range []*tree.Tree{nil, {}} {
		for _, at := range []string{"/", "/a", "a"} {
			for kind := range 5 {
				refusesTake(t, x, 1, at, kind, api.ErrArg)
				refusesTake(t, x, -1, at, kind, api.ErrArg)
			}
		}
	}
}

// TestTakeFull: P5.2 and P5.1, a tree with the most nodes, the longest data and the greatest numbers.
func TestTakeFull(t *testing.T) {
	var list []tree.Full
	for _, n := range row(subtree, 0, "/", longData, most, api.MaxNodes).Nodes {
		list = append(list, tree.Full{Place: n.Place, Data: n.Data, Version: n.Version, Made: 1, Changed: 2})
	}
	x := loaded(t, list...)
	for _, kind := range []int{subtree, kids} {
		if s, want := takes(t, x, most, "/", kind), row(kind, most, "/", longData, most, api.MaxNodes); !same(s, want) || shot.Check(s) != api.OK {
			t.Errorf("P5.2: Take(/, %d) = %v", kind, s)
		}
	}
}

// checks holds Check against the second reckoning, which holds against what is wanted.
func checks(t *testing.T, want api.Errno, s api.Shot) {
	t.Helper()
	if mayBeAgain(s) != (want == api.OK) {
		t.Fatalf("the second reckoning of %s is not %d", tell(s), want)
	}
	if code := shot.Check(s); code != want {
		t.Errorf("P5.1: Check(%s) = %d, want %d", tell(s), code, want)
	}
}

// TestCheck: P5.1, shots that may be.
func TestCheck(t *testing.T) {
	for _, s := range samples() {
		checks(t, api.OK, s)
		s.Stamp = most
		checks(t, api.OK, s)
		for _, stamp := range []int{-1, most + 1, math.MinInt, math.MaxInt} {
			s.Stamp = stamp
			checks(t, api.ErrShot, s)
		}
	}
	checks(t, api.OK, shotOf(0, "/a", subtree, see("/a", "", 0), see("/a/b", "", 0), see("/a/b/c", "", 0), see("/a/b-c", "", 0), see("/a/b.c", "", 0)))
	checks(t, api.OK, api.Shot{Place: "/a", Kind: node, Nodes: []api.Seen{}})
}

// TestCheckHead: P5.1, places and kinds of a shot that may not be, with nodes and without.
func TestCheckHead(t *testing.T) {
	checks(t, api.ErrShot, api.Shot{})
	for _, at := range []string{"", "a", "/a/", "//", "/.", "/..", "/a b", strings.Repeat("/a", 7), longPlace + "n", strings.Repeat("/a", 1<<20)} {
		for kind := range 5 {
			checks(t, api.ErrShot, shotOf(0, at, kind))
			checks(t, api.ErrShot, shotOf(0, at, kind, see(at, "", 0)))
		}
	}
	for _, kind := range []int{-1, 0, 4, math.MinInt, math.MaxInt} {
		checks(t, api.ErrShot, shotOf(0, "/a", kind))
		checks(t, api.ErrShot, shotOf(0, "/a", kind, see("/a", "", 0)))
	}
	for _, kind := range []int{node, kids, subtree} {
		checks(t, api.ErrShot, shotOf(0, "/", kind))
		checks(t, api.ErrShot, shotOf(0, "/", kind, bare("/a")...))
		checks(t, api.OK, shotOf(0, "/", kind, bare("/")...))
	}
}

// TestCheckNodes: P5.1, nodes that make no shot.
func TestCheckNodes(t *testing.T) {
	for _, c := range []struct {
		kinds  []int
		places []string
	}{
		{[]int{node, kids, subtree}, []string{"/a/b"}},
		{[]int{node, kids, subtree}, []string{"/b"}},
		{[]int{node, kids, subtree}, []string{"/"}},
		{[]int{node, kids, subtree}, []string{""}},
		{[]int{node, kids, subtree}, []string{"/", "/a"}},
		{[]int{node, kids, subtree}, []string{"/a", "/a"}},
		{[]int{node, kids, subtree}, []string{"/a", "/ab"}},
		{[]int{node, kids, subtree}, []string{"/a", "/a-"}},
		{[]int{node, kids, subtree}, []string{"/a", "/b"}},
		{[]int{node, kids, subtree}, []string{"/a", ""}},
		{[]int{node, kids, subtree}, []string{"/a", "/a/"}},
		{[]int{node, kids, subtree}, []string{"/a", "/a/."}},
		{[]int{node, kids, subtree}, []string{"/a", "/a/b c"}},
		{[]int{node, kids, subtree}, []string{"/a", "/a/b/c"}},
		{[]int{node, kids, subtree}, []string{"/a", "/a/b", "/a/b"}},
		{[]int{node, kids, subtree}, []string{"/a", "/a/c", "/a/b"}},
		{[]int{node, kids, subtree}, []string{"/a/b", "/a"}},
		{[]int{node, kids, subtree}, []string{"/a", "/a" + strings.Repeat("/b", 6)}},
		{[]int{node, kids, subtree}, []string{"/a", strings.Repeat("/a", 1<<20)}},
		{[]int{node}, []string{"/a", "/a/b"}},
		{[]int{node, kids}, []string{"/a", "/a/b", "/a/b/c"}},
		{[]int{subtree}, []string{"/a", "/a/b", "/a/b-", "/a/b/c"}},
		{[]int{subtree}, []string{"/a", "/a/b", "/a/c/d"}},
		{[]int{subtree}, []string{"/a", "/a/b", "/a/b/c/d"}},
		{[]int{subtree}, []string{"/a", "/a/b", "/a/b/c", "/a/c", "/a/d/c"}},
	} {
		for _, kind := range c.kinds {
			checks(t, api.ErrShot, shotOf(3, "/a", kind, bare(c.places...)...))
		}
	}
}

// TestCheckFields: P5.1, data and versions at their edges, in every node; of WatchKids all are bare.
func TestCheckFields(t *testing.T) {
	for _, s := range samples() {
		for i := range s.Nodes {
			for _, n := range []api.Seen{{Data: longData + "x"}, {Data: strings.Repeat("x", 1<<20)}, {Version: -1}, {Version: most + 1}, {Version: math.MinInt}, {Version: math.MaxInt}} {
				n.Place = s.Nodes[i].Place
				bad := s
				bad.Nodes = slices.Clone(s.Nodes)
				bad.Nodes[i] = n
				checks(t, api.ErrShot, bad)
			}
			for _, n := range []api.Seen{{Data: longData}, {Data: "\x00"}, {Version: most}, {Version: 1}} {
				n.Place = s.Nodes[i].Place
				other := s
				other.Nodes = slices.Clone(s.Nodes)
				other.Nodes[i] = n
				want := api.OK
				if s.Kind == kids {
					want = api.ErrShot
				}
				checks(t, want, other)
			}
		}
	}
}

// TestCheckMany: P5.1, the most nodes and one more, and lists of any length.
func TestCheckMany(t *testing.T) {
	for _, kind := range []int{kids, subtree} {
		for _, at := range []string{"/", "/a"} {
			checks(t, api.OK, row(kind, 1, at, "x", 2, api.MaxNodes))
			checks(t, api.ErrShot, row(kind, 1, at, "x", 2, api.MaxNodes+1))
		}
		checks(t, api.ErrShot, api.Shot{Place: "/a", Kind: kind, Nodes: make([]api.Seen, 1<<20)})
	}
}

// spoiled is a shot with something of it made another, so that it may be no more, or still.
func (c chance) spoiled(s api.Shot) api.Shot {
	s.Nodes = slices.Clone(s.Nodes)
	if len(s.Nodes) == 0 || c.IntN(6) == 0 {
		switch c.IntN(4) {
		case 0:
			s.Stamp = pick(c, -1, 0, most, most+1)
		case 1:
			s.Place = pick(c, c.place(), "", "a", "/a/")
		case 2:
			s.Kind = c.IntN(5)
		case 3:
			s.Nodes = append(s.Nodes, see(c.place(), c.data(), c.version()))
		}
		return s
	}
	i, k := c.IntN(len(s.Nodes)), c.IntN(len(s.Nodes))
	switch c.IntN(6) {
	case 0:
		s.Nodes[i].Place = pick(c, c.place(), c.place(), "", "/a/")
	case 1:
		s.Nodes[i].Data = pick(c, "", "z", longData+"x")
	case 2:
		s.Nodes[i].Version = pick(c, -1, 0, 7, most, most+1)
	case 3:
		s.Nodes[i], s.Nodes[k] = s.Nodes[k], s.Nodes[i]
	case 4:
		s.Nodes = slices.Delete(s.Nodes, i, i+1)
	case 5:
		s.Nodes = slices.Insert(s.Nodes, i, s.Nodes[k])
	}
	return s
}

// TestCheckSpoilt: P5.1, shots that were spoilt at some fields, held against the second reckoning.
func TestCheckSpoilt(t *testing.T) {
	c := chanceOf(1, 5)
	may := 0
	const rounds = 60000
	for range rounds {
		s := c.shot(c.place(), c.kind())
		for range c.IntN(3) {
			s = c.spoiled(s)
		}
		want := api.ErrShot
		if mayBeAgain(s) {
			want = api.OK
			may++
		}
		checks(t, want, s)
	}
	if may < rounds/10 || may > rounds*9/10 {
		t.Errorf("%d of %d shots may be: too few of one sort", may, rounds)
	}
}

// TestSame: P5.5, each field turned, at shots that may be and at others.
func TestSame(t *testing.T) {
	odd := []api.Shot{{}, {Kind: -1, Place: "a"}, shotOf(-1, "", 9, see("", "x", -1), see("", "x", -1)), shotOf(0, "/a", node, bare("/b", "/a")...)}
	all := slices.Concat(samples(), odd)
	for i, a := range all {
		for k, b := range all {
			if got := shot.Same(a, b); got != (i == k) {
				t.Errorf("P5.5: Same(%s, %s) = %v", tell(a), tell(b), got)
			}
		}
		b := a
		b.Nodes = slices.Clone(a.Nodes)
		for _, stamp := range []int{-1, 0, 5, most, math.MaxInt} {
			b.Stamp = stamp
			if !shot.Same(a, b) || !shot.Same(b, a) {
				t.Errorf("P5.5: the stamps %d and %d were looked at", a.Stamp, b.Stamp)
			}
		}
		differ := func(turn func(*api.Shot)) {
			other := a
			other.Nodes = slices.Clone(a.Nodes)
			turn(&other)
			if shot.Same(a, other) || shot.Same(other, a) {
				t.Errorf("P5.5: %s is the same as %s", tell(a), tell(other))
			}
		}
		differ(func(s *api.Shot) { s.Place += "x" })
		differ(func(s *api.Shot) { s.Kind++ })
		differ(func(s *api.Shot) { s.Nodes = append(s.Nodes, api.Seen{}) })
		for i := range a.Nodes {
			differ(func(s *api.Shot) { s.Nodes[i].Place += "x" })
			differ(func(s *api.Shot) { s.Nodes[i].Data += "x" })
			differ(func(s *api.Shot) { s.Nodes[i].Version++ })
			differ(func(s *api.Shot) { s.Nodes = s.Nodes[:i] })
		}
		if len(a.Nodes) > 1 && a.Nodes[0] != a.Nodes[1] {
			differ(func(s *api.Shot) { s.Nodes[0], s.Nodes[1] = s.Nodes[1], s.Nodes[0] })
		}
	}
	if !shot.Same(api.Shot{Place: "/a", Kind: node}, api.Shot{Place: "/a", Kind: node, Nodes: make([]api.Seen, 0, 4)}) {
		t.Error("P5.5: no nodes are not as an empty list")
	}
}
