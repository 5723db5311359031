package shot_test

import (
	"fmt"
	"math/rand/v2"
	"slices"
	"strings"
	"testing"

	"herald/api"
	"herald/shot"
	"herald/tree"
)

const (
	node    = api.WatchNode
	kids    = api.WatchKids
	subtree = api.WatchSubtree
)

var (
	longName  = strings.Repeat("n", api.MaxName)
	longPlace = strings.Repeat("/"+longName, api.MaxDepth)
	longData  = strings.Repeat("\xff", api.MaxData)
)

func see(at, data string, version int) api.Seen {
	return api.Seen{Place: at, Data: data, Version: version}
}

func shotOf(stamp int, at string, kind int, nodes ...api.Seen) api.Shot {
	return api.Shot{Stamp: stamp, Place: at, Kind: kind, Nodes: nodes}
}

func made(at, data string, version int) api.Change {
	return api.Change{Kind: api.ChangeMade, Place: at, Data: data, Version: version}
}

func set(at, data string, version int) api.Change {
	return api.Change{Kind: api.ChangeSet, Place: at, Data: data, Version: version}
}

func gone(at string) api.Change {
	return api.Change{Kind: api.ChangeGone, Place: at}
}

// bare are nodes with nothing but their places.
func bare(places ...string) []api.Seen {
	var all []api.Seen
	for _, at := range places {
		all = append(all, api.Seen{Place: at})
	}
	return all
}

// exampleTree is the tree of the chapter's examples.
func exampleTree(t *testing.T) *tree.Tree {
	t.Helper()
	return loaded(t, tree.Full{Place: "/"}, tree.Full{Place: "/a", Data: "x", Version: 2}, tree.Full{Place: "/a/b", Data: "y"}, tree.Full{Place: "/a/b/c"}, tree.Full{Place: "/d"})
}

func loaded(t *testing.T, list ...tree.Full) *tree.Tree {
	t.Helper()
	x, code := tree.Load(list)
	if code != api.OK {
		t.Fatalf("P4.8: Load(%+v) = %d", list, code)
	}
	return x
}

// exampleShots are the first, the second and the third shot of the chapter's examples.
func exampleShots() (first, second, third api.Shot) {
	return shotOf(5, "/a", node, see("/a", "x", 2)),
		shotOf(5, "/a", kids, bare("/a", "/a/b")...),
		shotOf(5, "/a", subtree, see("/a", "x", 2), see("/a/b", "y", 0), see("/a/b/c", "", 0))
}

// row is a shot of a kind with that many nodes side by side, its own place too; of WatchKids they are bare.
func row(kind, stamp int, at, data string, version, size int) api.Shot {
	s := shotOf(stamp, at, kind, see(at, data, version))
	for i := range size - 1 {
		s.Nodes = append(s.Nodes, see(strings.TrimSuffix(at, "/")+fmt.Sprintf("/%s%02d", longName[:14], i), data, version))
	}
	if kind == kids {
		s.Nodes = bare(placesOf(s)...)
	}
	return s
}

// greatest has shots with the most nodes, the longest places and data, and the greatest numbers.
func greatest() []api.Shot {
	above := longPlace[:api.MaxPlace-len(longName)-1]
	return []api.Shot{
		row(subtree, most, above, longData, most, api.MaxNodes),
		row(kids, most, above, "", 0, api.MaxNodes),
		row(subtree, most, "/", longData, most, api.MaxNodes),
		row(kids, most, "/", "", 0, api.MaxNodes),
		shotOf(most, longPlace, node, see(longPlace, longData, most)),
		shotOf(most, longPlace, subtree, see(longPlace, longData, most)),
	}
}

// plain has ordinary shots of every kind, with and without nodes.
func plain() []api.Shot {
	first, second, third := exampleShots()
	return []api.Shot{
		first, second, third,
		shotOf(0, "/z", node), shotOf(0, "/z", kids), shotOf(7, "/z", subtree), shotOf(128, "/a/b/c", subtree),
		shotOf(0, "/", node, see("/", "", 0)), shotOf(1, "/", node, see("/", "\x00\xff", 300)),
		shotOf(2, "/", kids, bare("/")...), shotOf(3, "/", kids, bare("/", "/a", "/a-b", "/b")...),
		shotOf(4, "/", subtree, see("/", "r", 1), see("/a", "x", 2), see("/a/b", "y", 0), see("/a-b", "", 9), see("/a-b/c", "", 0)),
		shotOf(9, "/a/b", kids, bare("/a/b", "/a/b/c", "/a/b/d")...),
	}
}

func samples() []api.Shot { return slices.Concat(plain(), greatest()) }

// chance makes the same shots and changes in every run.
type chance struct{ *rand.Rand }

func chanceOf(seed, kind uint64) chance { return chance{rand.New(rand.NewPCG(seed, kind))} }

func pick[T any](c chance, from ...T) T { return from[c.IntN(len(from))] }

// place is one of few, so that many meet; names that order otherwise than bytes are among them.
func (c chance) place() string {
	at := ""
	for range c.IntN(4) {
		at += pick(c, "/a", "/a", "/b", "/b-", "/b0")
	}
	return max(at, "/")
}

func (c chance) data() string { return pick(c, "", "x", "y", longData) }

func (c chance) version() int { return pick(c, 0, 0, 1, 2, most) }

func (c chance) kind() int { return pick(c, node, kids, subtree) }

// shot is one that may be, of that place and kind, with parents put in for its nodes.
func (c chance) shot(at string, kind int) api.Shot {
	all := map[string]api.Seen{}
	for range c.IntN(8) {
		for here := c.place(); inPart(kind, at, here); here = parentOf(here) {
			all[here] = see(here, c.data(), c.version())
			if here == "/" {
				break
			}
		}
	}
	if len(all) > 0 || at == "/" {
		all[at] = see(at, c.data(), c.version())
	}
	if kind == kids {
		for here := range all {
			all[here] = see(here, "", 0)
		}
	}
	return shotOf(pick(c, 0, 1, 5, most-1), at, kind, inOrder(all)...)
}

func parentOf(at string) string {
	return max(at[:strings.LastIndex(at, "/")], "/")
}

func (c chance) change() api.Change {
	x := api.Change{Kind: pick(c, 1, 1, 2, 3), Place: c.place(), Data: c.data(), Version: c.version()}
	switch c.IntN(60) {
	case 0:
		x.Kind = pick(c, -1, 0, 4)
	case 1:
		x.Place = pick(c, "", "a", "/a/", "//", "/.", longPlace+"n")
	case 2:
		x.Data = longData + "x"
	case 3:
		x.Version = pick(c, -1, most+1)
	}
	return x
}

// tell is a value as a text that is not too long to be read.
func tell(v any) string {
	return fmt.Sprintf("%.500s", fmt.Sprintf("%+v", v))
}

// takes holds that a call says OK, and gives its shot.
func takes(t *testing.T, x *tree.Tree, stamp int, at string, kind int) api.Shot {
	t.Helper()
	s, code := shot.Take(x, stamp, at, kind)
	if code != api.OK {
		t.Fatalf("P5.2: Take(%d, %q, %d) = %v, %d", stamp, at, kind, s, code)
	}
	return s
}
