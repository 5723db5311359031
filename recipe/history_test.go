package recipe_test

import (
	"slices"
	"strconv"

	"herald/api"
	"herald/place"
)

// history is what was in the tree of a scene, by stamps, and what its machines have said.
type history struct {
	past    [][]string      // by stamp: the names below the base
	present map[string]bool // the places below the base, now
	made    map[string]int  // the stamps at which nodes below the base were made
	items   map[string]*item
	sets    int // of the base
	claims  []*claim
	retired []*life // machines that are done, and have no client any more
}

// item is one that was put.
type item struct {
	data   string
	gone   bool
	goneBy *order
}

// claim is what a machine that is in says.
type claim struct {
	kind, size int
	place      string
	stamp      int
}

func newHistory() history {
	return history{past: [][]string{nil}, made: map[string]int{}, items: map[string]*item{}}
}

// notes takes up what an entry has changed.
func (h *history) notes(s *scene, by *order, changes []api.Change) {
	stamp := len(h.past)
	for _, c := range changes {
		if c.Place == s.base && c.Kind == api.ChangeSet {
			h.sets++
		}
		parent, _ := place.Parent(c.Place)
		if parent != s.base || c.Place == s.base {
			continue
		}
		switch {
		case c.Kind == api.ChangeMade:
			h.made[c.Place] = stamp
			if name, _ := place.Name(c.Place); len(rivals(api.JobPut, []string{name})) > 0 {
				h.items[c.Place] = &item{data: c.Data}
			}
		case c.Kind == api.ChangeGone && h.items[c.Place] != nil:
			h.items[c.Place].gone, h.items[c.Place].goneBy = true, by
		}
	}
	shot, _ := s.tree.Part(s.base, api.WatchKids)
	var names []string
	h.present = map[string]bool{}
	for _, n := range shot.Nodes {
		h.present[n.Place] = true
		if n.Place != s.base {
			name, _ := place.Name(n.Place)
			names = append(names, name)
		}
	}
	h.past = append(h.past, names)
	for _, c := range h.claims {
		h.isFirst(s, c, stamp)
	}
}

// isFirst holds P20.13 of one stamp: the node of who is in is the first one, as long as it is there.
func (h *history) isFirst(s *scene, c *claim, stamp int) {
	if c.kind == api.JobBarrier {
		return
	}
	name, _ := place.Name(c.place)
	all := rivals(c.kind, h.past[stamp])
	if slices.Contains(all, name) && all[0] != name {
		s.t.Errorf("P20.13: who is in by %s since %d is behind %s at %d", c.place, c.stamp, all[0], stamp)
	}
}

// holds holds the promises of how the machines stand now.
func (s *scene) holds() {
	s.t.Helper()
	in := map[int]int{}
	for _, p := range s.clients {
		held := p.g.held
		if held.Phase != api.HeldIn {
			continue
		}
		if p.claim == nil || p.claim.place != held.Place || p.claim.stamp != held.Stamp {
			p.claim = &claim{kind: p.job.Kind, size: p.job.Size, place: held.Place, stamp: held.Stamp}
			s.holdsClaim(p.claim)
		}
		if s.present[held.Place] {
			in[p.job.Kind]++
		}
	}
	if in[api.JobLock] > 1 || in[api.JobElect] > 1 {
		s.t.Errorf("P20.13: %d locks and %d elections are in", in[api.JobLock], in[api.JobElect])
	}
	s.holdsItems()
	s.holdsCounter()
}

// holdsClaim holds what a machine says that has come in just now.
func (s *scene) holdsClaim(c *claim) {
	s.t.Helper()
	s.tally["in "+nameOf(c.kind)]++
	name, _ := place.Name(c.place)
	if c.stamp < 1 || c.stamp >= len(s.past) {
		s.t.Fatalf("in by %s since %d, at %d", c.place, c.stamp, len(s.past)-1)
	}
	all := rivals(c.kind, s.past[c.stamp])
	if c.kind == api.JobBarrier {
		if len(all) < c.size {
			s.t.Errorf("P20.17: in since %d, where only %q were there of %d", c.stamp, all, c.size)
		}
		return
	}
	if len(all) == 0 || all[0] != name {
		s.t.Errorf("P20.13: in by %s since %d, where %q were there", c.place, c.stamp, all)
	}
	for stamp := c.stamp; stamp < len(s.past); stamp++ {
		s.isFirst(s, c, stamp)
	}
	for _, other := range s.claims {
		if other.kind == c.kind && (s.made[other.place] < s.made[c.place]) != (other.stamp < c.stamp) {
			s.t.Errorf("P20.14: %s was made at %d and is in since %d; %s was made at %d and is in since %d", c.place, s.made[c.place], c.stamp, other.place, s.made[other.place], other.stamp)
		}
		if other.kind == c.kind && other.stamp > c.stamp {
			s.tally["told late to be in"]++
		}
	}
	s.claims = append(s.claims, c)
}

// values are those of all machines of a kind.
func (s *scene) values(kind int) []string {
	all := slices.Clone(s.retired)
	for _, p := range s.clients {
		all = append(all, p.life)
	}
	var values []string
	for _, l := range all {
		if l.job.Kind == kind {
			values = append(values, l.g.held.Values...)
		}
	}
	return values
}

// holdsItems holds P20.15: what takers have is what was dropped by requests whose answers were heard, each once; all else that was put is in the tree, but for what was dropped by requests whose answers were not.
func (s *scene) holdsItems() {
	s.t.Helper()
	var want []string
	for at, x := range s.items {
		switch {
		case x.gone == s.present[at]:
			s.t.Errorf("P20.15: %s is neither in the tree nor dropped", at)
		case x.gone && x.goneBy == nil:
			s.t.Errorf("P20.15: %s was dropped by nobody", at)
		case x.gone && x.goneBy.isHeard:
			want = append(want, x.data)
		}
	}
	values := s.values(api.JobTake)
	slices.Sort(want)
	slices.Sort(values)
	if !slices.Equal(values, want) {
		s.t.Errorf("P20.15: the takers have %q, and have heard of %q", values, want)
	}
}

// holdsCounter holds P20.16, at any time: what is counted is the number of the sets, and nobody has what another one has.
func (s *scene) holdsCounter() {
	s.t.Helper()
	seen := map[int]bool{}
	for _, value := range s.values(api.JobCounter) {
		n, err := strconv.Atoi(value)
		if err != nil || n < 1 || n > s.sets || seen[n] {
			s.t.Errorf("P20.16: a counting machine has %q, behind %d sets; %d times", value, s.sets, 1+len(seen))
		}
		seen[n] = true
	}
	if s.clients[0].job.Kind != api.JobCounter {
		return
	}
	if shot, _ := s.tree.Part(s.base, api.WatchNode); len(shot.Nodes) > 0 && shot.Nodes[0].Data != strconv.Itoa(s.sets) {
		s.t.Errorf("P20.16: the counter is %q behind %d sets", shot.Nodes[0].Data, s.sets)
	}
}
