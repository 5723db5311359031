package shot_test

import (
	"fmt"
	"strings"
	"testing"

	"herald/api"
	"herald/shot"
	"herald/tree"
)

func (c chance) op() api.Op {
	at := pick(c, c.place(), c.place(), c.place(), strings.TrimSuffix(c.place(), "/")+"/n")
	return api.Op{Kind: pick(c, 1, 1, 1, 1, 2, 2, 3, 3, 5), Place: at, Data: c.data(), Version: pick(c, -1, -1, -1, 0), Flags: pick(c, 0, 0, 0, 1, 2, 3)}
}

func (c chance) ops() []api.Op {
	ops := make([]api.Op, 1+c.IntN(4))
	for i := range ops {
		ops[i] = c.op()
	}
	return ops
}

// beginning is a tree to begin with: the root alone, a small one, or one that is full, or nearly.
func (c chance) beginning(t *testing.T) *tree.Tree {
	list := []tree.Full{{Place: "/"}, {Place: "/a", Version: most - 1}, {Place: "/a/a", Data: "x"}, {Place: "/b", Owner: 1}, {Place: "/b-"}, {Place: "/b-/b", Owner: 2}}
	size := pick(c, 1, len(list), 62, 63, 64)
	for i := range size {
		list = append(list, tree.Full{Place: fmt.Sprintf("/z%02d", i), Owner: i % 3})
	}
	return loaded(t, list[:size]...)
}

// watches are all that are held along a script: places that are there, that come and go, and that are never there.
func watches() []api.Watch {
	var all []api.Watch
	for _, at := range []string{"/", "/a", "/a/a", "/a/b", "/a/a/b", "/b", "/b-", "/b0", "/n00000", "/a/n00000", "/z", "/z01"} {
		for _, kind := range []int{node, kids, subtree} {
			all = append(all, api.Watch{Place: at, Kind: kind})
		}
	}
	return all
}

// step plays an entry, a request or the end of a session.
func (c chance) step(x *tree.Tree, stamp int) []api.Change {
	if c.IntN(8) == 0 {
		return x.End(c.IntN(4))
	}
	for range 20 {
		if reply, changes := x.Play(c.IntN(4), stamp, c.ops()...); reply.Code == api.OK {
			return changes
		}
	}
	return nil
}

// TestFoldFollowsTheTree: P5.8, along scripts of requests and endings: each shot folded by the changes is the one that is taken then, and may be.
func TestFoldFollowsTheTree(t *testing.T) {
	several, told := 0, 0
	for seed := range uint64(150) {
		c := chanceOf(seed, 8)
		x := c.beginning(t)
		z := pick(c, 0, 7, most-40)
		pictures := map[api.Watch]api.Shot{}
		for _, w := range watches() {
			pictures[w] = takes(t, x, z, w.Place, w.Kind)
		}
		for range 40 {
			changes := c.step(x, z+1)
			for w, s := range pictures {
				want := takes(t, x, z+1, w.Place, w.Kind)
				got, code := shot.Fold(s, z+1, changes)
				if code != api.OK || !same(got, want) || shot.Check(want) != api.OK {
					t.Fatalf("P5.8: seed %d: Fold(%v, %d, %v) = %v, %d, want %v", seed, s, z+1, changes, got, code, want)
				}
				pictures[w] = got
			}
			z++
			told += min(1, len(changes))
			several += min(1, len(changes)/2)
		}
	}
	if told < 3000 || several < 600 {
		t.Errorf("only %d entries with changes, %d with several", told, several)
	}
}

// TestFoldOfDiff: P5.9, Diff's changes make one shot's nodes of the other's.
func TestFoldOfDiff(t *testing.T) {
	c := chanceOf(7, 5)
	for range 40000 {
		at, kind := c.place(), c.kind()
		a, b := c.shot(at, kind), c.shot(at, kind)
		changes, code := shot.Diff(a, b)
		if code != api.OK {
			t.Fatalf("P5.4: Diff(%v, %v) = %d", a, b, code)
		}
		for _, stamp := range []int{a.Stamp + 1, most} {
			got, code := shot.Fold(a, stamp, changes)
			if code != api.OK || !shot.Same(got, b) || got.Stamp != stamp {
				t.Fatalf("P5.9: Fold(%v, %d, %v) = %v, %d, want %v", a, stamp, changes, got, code, b)
			}
		}
		if shot.Same(a, b) != (len(changes) == 0) {
			t.Fatalf("P5.9: Diff(%v, %v) = %v", a, b, changes)
		}
	}
}

// smallShots are all shots of a kind of /a with up to four nodes that hold one of two things each.
func smallShots(kind int) []api.Shot {
	all := []api.Shot{shotOf(0, "/a", kind)}
	for _, at := range []string{"/a", "/a/b", "/a/b/c", "/a/d"} {
		for _, s := range all {
			for _, n := range []api.Seen{see(at, "", 0), see(at, "x", 1)} {
				larger := shotOf(0, "/a", kind, append(append([]api.Seen{}, s.Nodes...), n)...)
				if mayBeAgain(larger) {
					all = append(all, larger)
				}
			}
		}
	}
	return all
}

// steps are the fewest changes by which each of the shots is made of one of them, reckoned by trying all changes one by one.
func steps(from api.Shot, changes []api.Change) map[string]int {
	found := map[string]int{string(bytesAgain(from)): 0}
	for next := []api.Shot{from}; len(next) > 0; next = next[1:] {
		for _, c := range changes {
			got, code := shot.Fold(next[0], 1, []api.Change{c})
			got.Stamp = 0
			name := string(bytesAgain(got))
			if _, known := found[name]; code == api.OK && !known {
				found[name] = found[string(bytesAgain(next[0]))] + 1
				next = append(next, got)
			}
		}
	}
	return found
}

// TestDiffIsShortest: P5.4, no list of fewer changes makes the nodes.
func TestDiffIsShortest(t *testing.T) {
	var changes []api.Change
	for _, at := range []string{"/a", "/a/b", "/a/b/c", "/a/d"} {
		changes = append(changes, made(at, "", 0), made(at, "x", 1), set(at, "", 0), set(at, "x", 1), gone(at))
	}
	for _, kind := range []int{node, kids, subtree} {
		all := smallShots(kind)
		for _, a := range all {
			fewest := steps(a, changes)
			for _, b := range all {
				told, code := shot.Diff(a, b)
				if want, reached := fewest[string(bytesAgain(b))]; code != api.OK || !reached || len(told) != want {
					t.Fatalf("P5.4: Diff(%v, %v) = %v, %d, but %d are enough (%v)", a, b, told, code, want, reached)
				}
			}
		}
	}
}
