package view_test

import (
	"reflect"
	"slices"
	"testing"

	"herald/api"
	"herald/view"
)

// reason is an error with whether it applies.
type reason struct {
	applies bool
	code    api.Errno
}

func first(reasons ...reason) api.Errno {
	for _, r := range reasons {
		if r.applies {
			return r.code
		}
	}
	return api.OK
}

// again is a service by other means: who served, and up to which number it is settled. A service without a view has no pairs.
type again struct {
	nodes   int
	pairs   [][2]int
	settled int
}

func againOf(nodes int) *again {
	if nodes == 1 {
		return &again{nodes: 1, pairs: [][2]int{{1, 0}}}
	}
	return &again{nodes: nodes, pairs: [][2]int{{1, 2}}}
}

func (g *again) views() []api.View {
	var list []api.View
	for i, pair := range g.pairs {
		list = append(list, api.View{Num: i + 1, Primary: pair[0], Backup: pair[1]})
	}
	return list
}

func (g *again) now() api.View {
	return slices.Concat([]api.View{{}}, g.views())[len(g.pairs)]
}

func (g *again) isSettled() bool { return len(g.pairs) > 0 && g.settled == len(g.pairs) }

func (g *again) promote(primary, backup int) api.Errno {
	now := g.now()
	code := first(
		reason{!g.isSettled(), api.ErrUnready},
		reason{primary != now.Primary && primary != now.Backup, api.ErrView},
		reason{primary < 1 || primary > g.nodes, api.ErrView},
		reason{backup < 0 || backup > g.nodes, api.ErrView},
		reason{primary == backup, api.ErrView},
		reason{len(g.pairs) >= 401, api.ErrNumber})
	if code == api.OK {
		g.pairs = append(slices.Clone(g.pairs), [2]int{primary, backup})
	}
	return code
}

func (g *again) settle(num, node int) api.Errno {
	now := g.now()
	code := first(reason{len(g.pairs) == 0, api.ErrView}, reason{num != now.Num, api.ErrView}, reason{node != now.Primary, api.ErrView})
	if code == api.OK {
		g.settled = num
	}
	return code
}

func (g *again) take(from int, n api.Note) []api.Note {
	if n.Kind == 23 {
		g.settle(n.View.Num, from)
	}
	if n.Kind == 21 && len(g.pairs) > 0 {
		return []api.Note{{Kind: 22, View: g.now()}}
	}
	return nil
}

// call is one call of a service, and what it answered.
type call struct {
	kind string
	a, b int
	note api.Note
}

type answer struct {
	code  api.Errno
	yes   bool
	views []api.View
	notes []api.Note
}

func sameNotes(a, b []api.Note) bool {
	return slices.EqualFunc(a, b, func(x, y api.Note) bool { return reflect.DeepEqual(x, y) })
}

func (a answer) is(b answer) bool {
	return a.code == b.code && a.yes == b.yes && slices.Equal(a.views, b.views) && sameNotes(a.notes, b.notes)
}

func (c call) on(s *view.Service) answer {
	switch c.kind {
	case "promote":
		return answer{code: s.Promote(c.a, c.b)}
	case "settle":
		return answer{code: s.Settle(c.a, c.b)}
	case "take":
		return answer{notes: s.Take(c.a, c.note)}
	case "settled":
		return answer{yes: s.Settled()}
	case "now":
		return answer{views: []api.View{s.Now()}}
	}
	return answer{views: s.All()}
}

func (c call) again(g *again) answer {
	switch c.kind {
	case "promote":
		return answer{code: g.promote(c.a, c.b)}
	case "settle":
		return answer{code: g.settle(c.a, c.b)}
	case "take":
		return answer{notes: g.take(c.a, c.note)}
	case "settled":
		return answer{yes: g.isSettled()}
	case "now":
		return answer{views: []api.View{g.now()}}
	}
	return answer{views: g.views()}
}

func promoting(primary, backup int) call { return call{kind: "promote", a: primary, b: backup} }
func settling(num, node int) call        { return call{kind: "settle", a: num, b: node} }
func taking(from int, n api.Note) call   { return call{kind: "take", a: from, note: n} }

// isLike tells whether a service tells all that this one does; last, without all its views.
func (g *again) isLike(s *view.Service) bool { return g.last(s) && g.all(s) }

func (g *again) all(s *view.Service) bool { return slices.Equal(s.All(), g.views()) }

func (g *again) last(s *view.Service) bool { return s.Now() == g.now() && s.Settled() == g.isSettled() }

// number is that of a node, or 0; member one of the present view's two.
func (g *again) number(c chance) int { return c.IntN(g.nodes + 1) }

func (g *again) member(c chance) int { return pick(c, g.now().Primary, g.now().Backup, g.now().Backup) }

// call is one that often changes something, near an edge, and at times far from what may be.
func (c chance) call(g *again) call {
	now := g.now()
	num, node := now.Num, now.Primary
	switch c.IntN(4) {
	case 0:
		num = pick(c, now.Num-1, now.Num+1, 1, pick(c, ends()...))
	case 1:
		node = pick(c, now.Backup, g.number(c), pick(c, about(g.nodes)...))
	}
	switch c.IntN(10) {
	default:
		return promoting(g.member(c), g.number(c))
	case 0:
		return promoting(pick(c, g.member(c), g.number(c), pick(c, about(g.nodes)...)), pick(c, g.number(c), now.Primary, pick(c, about(g.nodes)...)))
	case 1, 2:
		return settling(num, node)
	case 3:
		return taking(node, settled(num))
	case 4:
		return taking(node, full(pick(c, kinds()...), num))
	case 5:
		return pick(c, taking(node, asking()), call{kind: "settled"}, call{kind: "now"}, call{kind: "all"})
	}
}

// TestScripts: P12.1 to P12.6, along scripts of calls, of every number of nodes.
func TestScripts(t *testing.T) {
	seen := map[string]int{}
	for seed := range uint64(400) {
		c := chanceOf(seed, 12)
		nodes := 1 + int(seed)%5
		s, g := made(t, nodes), againOf(nodes)
		for range 120 {
			x := c.call(g)
			got, want := x.on(s), x.again(g)
			if !got.is(want) || !g.isLike(s) {
				t.Fatalf("P12.2 to P12.6: seed %d: %s %d %d = %s, want %s; then %s, want %s", seed, x.kind, x.a, x.b, tell(got), tell(want), tell(s.All()), tell(g.views()))
			}
			seen[x.kind+" "+tell(int(want.code))]++
		}
	}
	for _, kind := range []string{"promote 0", "promote 120", "promote 121", "settle 0", "settle 120", "take 0", "settled 0", "now 0", "all 0"} {
		if seen[kind] < 400 {
			t.Errorf("the scripts have %q only %d times", kind, seen[kind])
		}
	}
}

// TestLongScripts: P12.2, along scripts of calls that go on till there is no room for a view, and behind that.
func TestLongScripts(t *testing.T) {
	for seed := range uint64(10) {
		c := chanceOf(seed, 121)
		nodes := 1 + int(seed)%5
		s, g := made(t, nodes), againOf(nodes)
		numbers := 0
		for step := 0; numbers < 40; step++ {
			x := c.call(g)
			got, want := x.on(s), x.again(g)
			if !got.is(want) || !g.last(s) {
				t.Fatalf("P12.2: seed %d: behind %d views %s %d %d = %s, want %s", seed, len(g.pairs), x.kind, x.a, x.b, tell(got), tell(want))
			}
			if want.code == api.ErrNumber {
				numbers++
			}
			if step > 100000 {
				t.Fatalf("seed %d: the script does not come to an end", seed)
			}
		}
		if !g.all(s) {
			t.Fatalf("P12.2: seed %d: All is not what the script makes", seed)
		}
	}
}

// letters is how many calls small scripts are made of.
const letters = 14

// letter is one of these, by what the service is then.
func letter(g *again, number int) call {
	now := g.now()
	switch number {
	case 0:
		return settling(now.Num, now.Primary)
	case 1:
		return settling(now.Num, now.Backup)
	case 2:
		return settling(now.Num-1, now.Primary)
	case 3:
		return settling(now.Num+1, now.Primary)
	case 4:
		return taking(now.Primary, settled(now.Num))
	case 5:
		return taking(now.Backup, settled(now.Num))
	case 6:
		return taking(0, asking())
	case 7:
		return promoting(now.Backup, now.Primary)
	case 8:
		return promoting(now.Primary, now.Backup)
	case 9:
		return promoting(now.Primary, 0)
	case 10:
		return promoting(now.Backup, g.nodes)
	case 11:
		return promoting(g.nodes, now.Primary)
	case 12:
		return promoting(now.Primary, g.nodes+1)
	}
	return promoting(now.Primary, g.nodes)
}

// TestAllSmallScripts: P12.2 to P12.6, all scripts of up to four calls out of fourteen (of three nodes, of up to five), of every number of nodes and without any.
func TestAllSmallScripts(t *testing.T) {
	begins := []func() (*view.Service, *again){
		func() (*view.Service, *again) { return nil, &again{} },
		func() (*view.Service, *again) { return &view.Service{}, &again{} },
	}
	for nodes := 1; nodes <= 5; nodes++ {
		begins = append(begins, func() (*view.Service, *again) { return made(t, nodes), againOf(nodes) })
	}
	for _, begin := range begins {
		size := 4
		if _, g := begin(); g.nodes == 3 {
			size = 5
		}
		scripts := 1
		for length := 1; length <= size; length++ {
			scripts *= letters
			for number := range scripts {
				s, g := begin()
				for range length {
					x := letter(g, number%letters)
					number /= letters
					if got, want := x.on(s), x.again(g); !got.is(want) {
						t.Fatalf("P12.2 to P12.6: of %d nodes, %s %d %d = %s, want %s", g.nodes, x.kind, x.a, x.b, tell(got), tell(want))
					}
				}
				if !g.isLike(s) {
					t.Fatalf("P12.2 to P12.6: a service of %d nodes has %s, want %s", g.nodes, tell(s.All()), tell(g.views()))
				}
			}
		}
	}
}

// TestAlike: W2, two services that are given the same calls answer the same, also if one was asked more in between, and others are called in turns with them.
func TestAlike(t *testing.T) {
	for seed := range uint64(60) {
		c := chanceOf(seed, 2)
		nodes := 1 + int(seed)%5
		g := againOf(nodes)
		one, other, stranger := made(t, nodes), made(t, nodes), made(t, 3)
		for range 100 {
			x := c.call(g)
			x.again(g)
			other.Now()
			other.Settled()
			other.All()
			other.Take(c.IntN(9), api.Note{Kind: c.IntN(api.NoteSettled)})
			c.call(againOf(3)).on(stranger)
			if a, b := x.on(one), x.on(other); !a.is(b) {
				t.Fatalf("W2: seed %d: %s %d %d = %s and %s", seed, x.kind, x.a, x.b, tell(a), tell(b))
			}
		}
	}
}

// TestRefusedIsNothing: P12.6 and W3, a script with all that is refused left out makes the same.
func TestRefusedIsNothing(t *testing.T) {
	for seed := range uint64(100) {
		c := chanceOf(seed, 3)
		nodes := 1 + int(seed)%5
		g := againOf(nodes)
		all, few := made(t, nodes), made(t, nodes)
		for range 100 {
			x := c.call(g)
			if x.again(g); x.on(all).code == api.OK {
				x.on(few)
			}
		}
		if all.Now() != few.Now() || all.Settled() != few.Settled() || !slices.Equal(all.All(), few.All()) {
			t.Fatalf("P12.6: seed %d: %s and, without what was refused, %s", seed, tell(all.All()), tell(few.All()))
		}
	}
}
