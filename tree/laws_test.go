package tree_test

import (
	"fmt"
	"math/rand/v2"
	"slices"
	"strings"
	"testing"

	"herald/api"
	"herald/tree"
)

// grown is a tree with a node for every row of the table of P4.3, with that many nodes in all.
func grown(size int) []tree.Full {
	list := []tree.Full{
		{Place: "/", Counter: 1}, {Place: "/a", Data: "x", Version: 3, Made: 1, Changed: 4, Counter: 2}, {Place: "/a/b", Version: 2147483646}, {Place: "/a/n00002", Owner: 6},
		{Place: "/a-b"}, {Place: "/c", Data: "y", Version: 1, Made: 2, Changed: 2, Owner: 5}, {Place: "/d", Version: 2147483647}, {Place: "/e", Counter: 99999}, {Place: "/f", Counter: 100000}, {Place: "/f/g"},
	}
	for i := range size - len(list) {
		list = append(list, tree.Full{Place: fmt.Sprintf("/z%02d", i), Data: "z", Owner: i % 3})
	}
	return list
}

func someSizes() []int { return []int{10, 63, 64} }

func somePlaces() []string {
	return []string{"/", "/a", "/a/b", "/a/b/c", "/a/n", "/a/n00002", "/a-b", "/a-b/abcdefghijk", "/a-b/abcdefghijkl", "/c", "/c/x", "/d", "/e", "/e/n", "/f", "/f/n", "/f/g", "/n", "/x/y", "", "a", "/a/"}
}

// everyOp hands on every op of a choice of each of its fields.
func everyOp(yield func(api.Op) bool) {
	for kind := -1; kind <= 8; kind++ {
		for _, at := range somePlaces() {
			for _, size := range []int{0, 64, 65} {
				for _, version := range []int{-2, -1, 0, 1, 3, 2147483647} {
					for flags := -1; flags <= 4; flags++ {
						if !yield(api.Op{Kind: kind, Place: at, Data: strings.Repeat("d", size), Version: version, Flags: flags}) {
							return
						}
					}
				}
			}
		}
	}
}

// TestEveryOp: P4.3 and P4.4, each op alone, held against the rows of the table.
func TestEveryOp(t *testing.T) {
	for _, size := range someSizes() {
		for _, session := range []int{0, 5} {
			t.Run(fmt.Sprint(size, session), func(t *testing.T) {
				t.Parallel()
				x, g := loaded(t, grown(size)...), again(grown(size))
				for op := range everyOp {
					next, want, changes := g.play(session, 9, []api.Op{op})
					reply, told := x.Play(session, 9, op)
					if !sameReply(reply, want) || !slices.Equal(told, changes) {
						t.Fatalf("P4.3, P4.4: %d nodes, Play(%d, 9, %+v) = %+v, %+v, want %+v, %+v", size, session, op, reply, told, want, changes)
					}
					if len(changes) == 0 {
						continue
					}
					if all := x.Nodes(); !slices.Equal(all, next.sorted()) {
						t.Fatalf("P4.4: %d nodes, behind %+v there is %+v", size, op, all)
					}
					x = loaded(t, grown(size)...)
				}
			})
		}
	}
}

// chance makes the same requests in every run.
type chance struct{ *rand.Rand }

func pick[T any](c chance, from ...T) T { return from[c.IntN(len(from))] }

func (c chance) place() string {
	at := ""
	for range 1 + c.IntN(3) {
		at += pick(c, "/a", "/a", "/b", "/b-", "/n", "/n00000", "/n00001")
	}
	return pick(c, at, at, at, at, at, at, "/", somePlaces()[c.IntN(len(somePlaces()))])
}

func (c chance) op() api.Op {
	kind := pick(c, 1, 1, 1, 1, 2, 2, 3, 3, 4, 5, 6, 7)
	data := strings.Repeat(pick(c, "x", "y"), pick(c, 0, 1, 2, 64))
	op := api.Op{Kind: kind, Place: c.place(), Data: data, Version: pick(c, -1, -1, -1, 0, 1, 2), Flags: pick(c, 0, 0, 0, 1, 2, 2, 3)}
	if c.IntN(60) == 0 {
		op.Kind = pick(c, -1, 0, 8)
	}
	return op
}

func (c chance) ops() []api.Op {
	ops := make([]api.Op, pick(c, 1, 1, 2, 2, 3, 4))
	if c.IntN(40) == 0 {
		ops = make([]api.Op, pick(c, 0, 5))
	}
	for i := range ops {
		ops[i] = c.op()
	}
	return ops
}

// beginning is a tree to begin with, and the same again.
func (c chance) beginning(t *testing.T) (*tree.Tree, again) {
	if c.IntN(2) == 0 {
		return tree.New(), again{{Place: "/"}}
	}
	list := grown(pick(c, 10, 61, 63, 64))
	return loaded(t, list...), list
}

// TestManyRequests: P4.2 to P4.7 and P4.9, scripts of requests and endings, held against the second reckoning at every step; a tree that was loaded on the way goes along.
func TestManyRequests(t *testing.T) {
	for seed := range uint64(400) {
		c := chance{rand.New(rand.NewPCG(seed, 4))}
		x, g := c.beginning(t)
		y := loaded(t, x.Nodes()...)
		for range 60 {
			if c.IntN(12) == 0 {
				session := c.IntN(8) - 1
				next, want := g.end(session)
				ends(t, x, session, want...)
				ends(t, y, session, want...)
				g = next
			} else {
				session, stamp, ops := pick(c, 0, 1, 2, 3, 5, 6, -1), pick(c, 1, 2, 7, 2147483647, c.IntN(50)), c.ops()
				next, want, changes := g.play(session, stamp, ops)
				for _, either := range []*tree.Tree{x, y} {
					if reply, told := either.Play(session, stamp, ops...); !sameReply(reply, want) || !slices.Equal(told, changes) {
						t.Fatalf("P4.2, P4.9: seed %d, Play(%d, %d, %+v) = %+v, %+v, want %+v, %+v", seed, session, stamp, ops, reply, told, want, changes)
					}
				}
				g = next
			}
			at, kind := c.place(), 1+c.IntN(3)
			if isPlace(at) {
				parts(t, x, at, kind, g.part(at, kind)...)
				parts(t, y, at, kind, g.part(at, kind)...)
			}
			if !slices.Equal(x.Nodes(), g.sorted()) || !slices.Equal(y.Nodes(), g.sorted()) || t.Failed() {
				t.Fatalf("P4.7, P4.9: seed %d: %+v and %+v, want %+v", seed, x.Nodes(), y.Nodes(), g.sorted())
			}
			if c.IntN(10) == 0 {
				y = loaded(t, x.Nodes()...)
			}
		}
	}
}

// turned is what Nodes has, turned by changes as P4.13 says.
func turned(t *testing.T, list []tree.Full, changes []api.Change) map[string]api.Seen {
	t.Helper()
	all := map[string]api.Seen{}
	for _, n := range list {
		all[n.Place] = api.Seen{Place: n.Place, Data: n.Data, Version: n.Version}
	}
	for _, c := range changes {
		if _, there := all[c.Place]; there != (c.Kind != api.ChangeMade) {
			t.Fatalf("P4.13: the change %+v can't be", c)
		}
		all[c.Place] = api.Seen{Place: c.Place, Data: c.Data, Version: c.Version}
		if c.Kind == api.ChangeGone {
			delete(all, c.Place)
		}
	}
	return all
}

// TestWhatHoldsAtAnyTime: P4.12 and P4.13, along scripts of requests and endings.
func TestWhatHoldsAtAnyTime(t *testing.T) {
	for seed := range uint64(300) {
		c := chance{rand.New(rand.NewPCG(seed, 13))}
		x, _ := c.beginning(t)
		for range 50 {
			before := x.Nodes()
			var changes []api.Change
			if c.IntN(10) == 0 {
				changes = x.End(c.IntN(7))
			} else {
				_, changes = x.Play(c.IntN(7), 1+c.IntN(9), c.ops()...)
			}
			after := x.Nodes()
			all := turned(t, before, changes)
			if len(all) != len(after) || len(after) > api.MaxNodes {
				t.Fatalf("P4.12, P4.13: seed %d: %+v became %+v by %+v", seed, before, after, changes)
			}
			for i, n := range after {
				above := again(after).above(n.Place)
				if all[n.Place] != (api.Seen{Place: n.Place, Data: n.Data, Version: n.Version}) {
					t.Fatalf("P4.13: seed %d: %+v became %+v by %+v", seed, before, n, changes)
				}
				if i > 0 && (above.Place == "" || above.Owner != 0 || byPlace(after[i-1].Place, n.Place) >= 0) {
					t.Fatalf("P4.12, P4.7: seed %d: %+v below %+v", seed, n, above)
				}
			}
		}
	}
}
