package view_test

import (
	"slices"
	"testing"

	"herald/api"
	"herald/view"
)

// lawful holds what P12.7 says of a service at any time; was: up to which number its views have been settled.
func lawful(t *testing.T, s *view.Service, was int) {
	t.Helper()
	all := s.All()
	if len(all) == 0 || s.Now() != all[len(all)-1] {
		t.Fatalf("P12.7: the present view is %v, all are %s", s.Now(), tell(all))
	}
	if was < len(all)-1 {
		t.Errorf("P12.7: there are %d views, but only %d were settled", len(all), was)
	}
	for i, v := range all {
		if v.Num != i+1 {
			t.Errorf("P12.7: view %d has the number %d", i+1, v.Num)
		}
		if v.Primary == v.Backup {
			t.Errorf("P12.7: of view %d both are %d", v.Num, v.Primary)
		}
		if i > 0 && v.Primary != all[i-1].Primary && v.Primary != all[i-1].Backup {
			t.Errorf("P12.7: %v comes behind %v", v, all[i-1])
		}
	}
}

// TestLaws: P12.7, along scripts of calls; and what there was stays.
func TestLaws(t *testing.T) {
	views := 0
	for seed := range uint64(200) {
		c := chanceOf(seed, 7)
		nodes := 1 + int(seed)%5
		s, g := made(t, nodes), againOf(nodes)
		was := 0
		for range 250 {
			before := s.All()
			x := c.call(g)
			x.again(g)
			x.on(s)
			if s.Settled() {
				was = len(s.All())
			}
			lawful(t, s, was)
			if after := s.All(); len(after) > len(before)+1 || !slices.Equal(after[:len(before)], before) {
				t.Errorf("P12.7: %s became %s", tell(before), tell(after))
			}
			if t.Failed() {
				t.Fatalf("P12.7: seed %d: behind %s %d %d", seed, x.kind, x.a, x.b)
			}
		}
		views += len(s.All())
	}
	if views < 3000 {
		t.Errorf("the scripts make only %d views", views)
	}
}

// replicas are nodes that hold things, and lose none.
type replicas [api.MaxPeers + 1]map[int]bool

func newReplicas() replicas {
	var r replicas
	for node := range r {
		r[node] = map[int]bool{}
	}
	return r
}

// join gives a view's backup all that its primary has: then the view may be settled.
func (r replicas) join(v api.View) {
	for thing := range r[v.Primary] {
		r.give(v.Backup, thing)
	}
}

// give gives a node a thing; nobody is no node.
func (r replicas) give(node, thing int) {
	if node != 0 {
		r[node][thing] = true
	}
}

// have tells whether both nodes of a view have a thing.
func (r replicas) have(v api.View, thing int) bool {
	return r[v.Primary][thing] && (v.Backup == 0 || r[v.Backup][thing])
}

// TestNothingIsLost: P12.8, what is with both nodes of a view when it is settled is with both of every later settled one, as long as a view is settled only when its backup has all that its primary had.
func TestNothingIsLost(t *testing.T) {
	settledViews, changed := 0, 0
	for seed := range uint64(300) {
		c := chanceOf(seed, 8)
		nodes := 1 + int(seed)%5
		s, g := made(t, nodes), againOf(nodes)
		r := newReplicas()
		var safe []int // what was with both nodes of a settled view
		for step := range 200 {
			now, was := s.Now(), s.Settled()
			x := c.call(g)
			x.again(g)
			x.on(s)
			// Whoever is anywhere may get things of which nobody else knows.
			r.give(1+c.IntN(nodes), 10000+step)
			if was || !s.Settled() || s.Now() != now {
				continue
			}
			r.join(now)
			for _, thing := range safe {
				if !r.have(now, thing) {
					t.Fatalf("P12.8: seed %d: what view %d had is not with the nodes of %v", seed, thing, now)
				}
			}
			settledViews++
			if all := s.All(); len(all) > 1 && all[len(all)-2].Primary != now.Primary {
				changed++
			}
			r.give(now.Primary, now.Num)
			r.give(now.Backup, now.Num)
			safe = append(safe, now.Num)
		}
	}
	if settledViews < 4000 || changed < 1000 {
		t.Errorf("the scripts settle only %d views, with %d changes of who serves", settledViews, changed)
	}
}

// TestSomebodyKnows: P12.7 and P12.8, between a settled view and the next one there is a node that is in both, and it serves in the next.
func TestSomebodyKnows(t *testing.T) {
	for nodes := 1; nodes <= 5; nodes++ {
		for _, pair := range pairs(nodes) {
			for _, next := range pairs(nodes) {
				s, views := serving(t, nodes, pair[0], pair[1])
				s.Settle(len(views), pair[0])
				code := s.Promote(next[0], next[1])
				if in := next[0] == pair[0] || next[0] == pair[1]; (code == api.OK) != in {
					t.Errorf("P12.7: behind the view of %v, Promote%v says %d", pair, next, code)
				}
			}
		}
	}
}
