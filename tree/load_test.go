package tree_test

import (
	"math/rand/v2"
	"slices"
	"strings"
	"testing"

	"herald/api"
	"herald/tree"
)

// loads holds what Load answers to a list, by P4.8's own words.
func loads(t *testing.T, want api.Errno, list ...tree.Full) {
	t.Helper()
	x, code := tree.Load(list)
	if code != want || (x != nil) != (want == api.OK) {
		t.Errorf("P4.8: Load(%.300v) = %v, %d, want %d", list, x, code, want)
	}
	if code == api.OK && !slices.Equal(x.Nodes(), list) {
		t.Errorf("P4.8, P4.9: Load(%+v) has %+v", list, x.Nodes())
	}
}

func under(n ...tree.Full) []tree.Full {
	return append([]tree.Full{{Place: "/"}}, n...)
}

// TestLoad: P4.8, each thing that a list must be, at its edges.
func TestLoad(t *testing.T) {
	const most = 2147483647
	loads(t, api.ErrArg)
	loads(t, api.OK, tree.Full{Place: "/"})
	loads(t, api.OK, tree.Full{Place: "/", Data: strings.Repeat("x", 64), Version: most, Made: most, Changed: most, Counter: 100000})
	loads(t, api.OK, under(tree.Full{Place: "/a", Data: strings.Repeat("x", 64), Version: most, Made: most, Changed: most, Counter: 100000})...)
	loads(t, api.OK, under(tree.Full{Place: "/a", Version: most, Made: most, Changed: most, Owner: most})...)
	loads(t, api.OK, under(tree.Full{Place: "/a", Made: 5, Changed: 2})...)
	loads(t, api.OK, under(tree.Full{Place: "/a"}, tree.Full{Place: "/a/b", Owner: 1}, tree.Full{Place: "/a-"}, tree.Full{Place: "/a-/x"})...)
	loads(t, api.ErrArg, tree.Full{Place: "/", Owner: 1})
	for _, at := range []string{"", "a", "/a/", "/.", "/a b", strings.Repeat("/a", 7), strings.Repeat("/", 103), strings.Repeat("/a", 60000), "/a/b"} {
		loads(t, api.ErrArg, tree.Full{Place: at})
		loads(t, api.ErrArg, under(tree.Full{Place: at})...)
	}
	loads(t, api.ErrArg, tree.Full{Place: "/a"}, tree.Full{Place: "/"})
	loads(t, api.ErrArg, under(under()...)...)
	for _, pair := range [][2]string{{"/b", "/a"}, {"/a", "/a"}, {"/a-", "/a"}, {"/a", "/"}, {"/a", "/b/c"}} {
		loads(t, api.ErrArg, under(tree.Full{Place: pair[0]}, tree.Full{Place: pair[1]})...)
	}
	loads(t, api.ErrArg, under(tree.Full{Place: "/a"}, tree.Full{Place: "/a-"}, tree.Full{Place: "/a/b"})...)
	loads(t, api.ErrArg, under(tree.Full{Place: "/a", Owner: 1}, tree.Full{Place: "/a/b"})...)
	loads(t, api.ErrArg, under(tree.Full{Place: "/a", Owner: 1}, tree.Full{Place: "/a/b", Owner: 1})...)
	loads(t, api.ErrArg, under(tree.Full{Place: "/a", Owner: 1, Counter: 1})...)
	for _, bad := range []int{-1, most + 1, -1 << 63, 1<<63 - 1} {
		for _, n := range []tree.Full{{Version: bad}, {Made: bad}, {Changed: bad}, {Owner: bad}, {Counter: bad}} {
			n.Place = "/a"
			loads(t, api.ErrArg, under(n)...)
			n.Place = "/"
			loads(t, api.ErrArg, n)
		}
	}
	loads(t, api.ErrArg, under(tree.Full{Place: "/a", Counter: 100001})...)
	loads(t, api.ErrArg, under(tree.Full{Place: "/a", Data: strings.Repeat("x", 65)})...)
	loads(t, api.ErrArg, tree.Full{Place: "/", Data: strings.Repeat("x", 65)})
}

// TestLoadMany: P4.8, MaxNodes nodes and one more, which is found by the list's length alone.
func TestLoadMany(t *testing.T) {
	loads(t, api.OK, grown(64)...)
	loads(t, api.ErrLong, grown(65)...)
	loads(t, api.ErrLong, make([]tree.Full, 65)...)
	loads(t, api.ErrLong, make([]tree.Full, 100000)...)
	loads(t, api.ErrArg, make([]tree.Full, 64)...)
}

// TestLoadSpoilt: P4.8, lists that were spoilt at one or two fields, held against its words.
func TestLoadSpoilt(t *testing.T) {
	c := chance{rand.New(rand.NewPCG(8, 8))}
	number := func() int { return pick(c, 0, 0, 1, 2, 99999, 100000, 100001, 2147483647, 2147483648, -1) }
	for range 40000 {
		list := grown(12)[:1+c.IntN(12)]
		for range 1 + c.IntN(3) {
			n := &list[c.IntN(len(list))]
			switch c.IntN(9) {
			case 0:
				n.Place = c.place()
			case 1:
				n.Data = strings.Repeat("x", pick(c, 0, 64, 65))
			case 2:
				n.Version = number()
			case 3:
				n.Made = number()
			case 4:
				n.Changed = number()
			case 5:
				n.Owner = number()
			case 6:
				n.Counter = number()
			case 7:
				i, k := c.IntN(len(list)), c.IntN(len(list))
				list[i], list[k] = list[k], list[i]
			case 8:
				list = slices.Delete(list, 0, c.IntN(2))
				if len(list) == 0 {
					list = under()
				}
			}
		}
		loads(t, loadAgain(list), list...)
	}
}
