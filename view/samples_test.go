package view_test

import (
	"fmt"
	"math"
	"math/rand/v2"
	"slices"
	"strings"
	"testing"

	"herald/api"
	"herald/view"
)

const most = api.MaxNumber

// ends are numbers at and around the ends of what a node, an address, a view's number and an int can be.
func ends() []int {
	return []int{math.MinInt, math.MinInt + 1, -1 << 32, -most - 1, -most, -2, -1, 0, 1, 2, 3, 4, api.MaxPeers, api.MaxPeers + 1, 99, 100, 101, 102, 106, 107, api.MaxSteps, api.MaxSteps + 1, api.MaxSteps + 2, most - 1, most, most + 1, 1 << 32, 1<<32 + 1, 1<<32 + 2, math.MaxInt - 1, math.MaxInt}
}

// about are the numbers around those of the nodes, and the ends.
func about(nodes int) []int {
	list := ends()
	for number := -2; number <= nodes+2; number++ {
		list = append(list, number)
	}
	slices.Sort(list)
	return slices.Compact(list)
}

func viewOf(num, primary, backup int) api.View {
	return api.View{Num: num, Primary: primary, Backup: backup}
}

// told is what the service answers to who asks in that view.
func told(v api.View) []api.Note {
	return []api.Note{{Kind: api.NoteTell, View: v}}
}

// asking and settled are notes with nothing but what is asked of them.
func asking() api.Note { return api.Note{Kind: api.NoteAsk} }

func settled(num int) api.Note { return api.Note{Kind: api.NoteSettled, View: api.View{Num: num}} }

// full is a note of that kind and of that view with something in every other field.
func full(kind, num int) api.Note {
	ops := []api.Op{{Kind: api.OpMake, Place: "/a", Data: "x", Version: 3, Flags: 1}}
	return api.Note{
		Kind:    kind,
		View:    api.View{Num: num, Primary: 3, Backup: 1},
		Session: 7, Conn: 8, Request: 9, Stamp: 10, Of: 11, Commit: 12, Code: api.ErrView,
		Ops:     ops,
		Entries: []api.Entry{{Stamp: 11, View: 1, Kind: api.EntryRequest, Session: 7, Request: 9, Ops: ops}},
		Reply:   api.Reply{Stamp: 10, Code: api.ErrNoNode, At: 1, Results: []api.Result{{Place: "/a", Kids: []string{"b"}}}},
		Watches: []api.Watch{{Id: 1, Place: "/a", Kind: 1, From: 3}},
		Parts:   []api.Part{{Id: 1, Shot: api.Shot{Stamp: 3, Place: "/a", Kind: 1, Nodes: []api.Seen{{Place: "/a"}}}}},
		Items:   []api.Item{{Stamp: 4, After: 3, Changes: []api.Tagged{{Change: api.Change{Kind: 1, Place: "/a"}, Tags: []int{1}}}}},
		State:   strings.Repeat("\xff\x00/", 1000),
	}
}

// kinds are all kinds of notes, and such as there are not.
func kinds() []int {
	list := ends()
	for kind := -1; kind <= api.NoteUnwatched+2; kind++ {
		list = append(list, kind)
	}
	slices.Sort(list)
	return slices.Compact(list)
}

func made(t *testing.T, nodes int) *view.Service {
	t.Helper()
	s, code := view.New(nodes)
	if s == nil || code != api.OK {
		t.Fatalf("P12.1: New(%d) = %v, %d", nodes, s != nil, code)
	}
	return s
}

// firstOf is the first view of a service of so many nodes.
func firstOf(nodes int) api.View {
	if nodes == 1 {
		return viewOf(1, 1, 0)
	}
	return viewOf(1, 1, 2)
}

// serving is a service of so many nodes with these two in its present view, not settled, and all its views.
func serving(t *testing.T, nodes, primary, backup int) (*view.Service, []api.View) {
	t.Helper()
	s := made(t, nodes)
	views := []api.View{firstOf(nodes)}
	next := func(primary, backup int) {
		is(t, "P12.3: Settle", s.Settle(len(views), views[len(views)-1].Primary), api.OK)
		is(t, "P12.2: Promote", s.Promote(primary, backup), api.OK)
		views = append(views, viewOf(len(views)+1, primary, backup))
	}
	if primary > 2 {
		next(1, primary)
	}
	next(primary, backup)
	return s, views
}

// pairs are all primaries and backups that a view of so many nodes may have.
func pairs(nodes int) [][2]int {
	var list [][2]int
	for primary := 1; primary <= nodes; primary++ {
		for backup := 0; backup <= nodes; backup++ {
			if backup != primary {
				list = append(list, [2]int{primary, backup})
			}
		}
	}
	return list
}

// long is a service of so many nodes with so many views, the last of them settled or not.
func long(t *testing.T, nodes, number int, isSettled bool) (*view.Service, []api.View) {
	t.Helper()
	s := made(t, nodes)
	views := []api.View{firstOf(nodes)}
	for len(views) < number {
		now := views[len(views)-1]
		primary, backup := now.Backup, now.Primary
		if primary == 0 {
			primary, backup = now.Primary, 0
		}
		is(t, "P12.3: Settle", s.Settle(now.Num, now.Primary), api.OK)
		is(t, "P12.2: Promote", s.Promote(primary, backup), api.OK)
		views = append(views, viewOf(now.Num+1, primary, backup))
	}
	if isSettled {
		is(t, "P12.3: Settle", s.Settle(number, views[number-1].Primary), api.OK)
	}
	return s, views
}

// empties are the services without a view.
func empties() map[string]*view.Service {
	return map[string]*view.Service{"a nil service": nil, "a zero service": {}}
}

// tell is a value as a text that is not too long to be read.
func tell(v any) string {
	return fmt.Sprintf("%.500s", fmt.Sprintf("%+v", v))
}

func is(t *testing.T, what string, got, want api.Errno) {
	t.Helper()
	if got != want {
		t.Errorf("%s says %d, want %d", what, got, want)
	}
}

func count(t *testing.T, what string, got, want int) {
	t.Helper()
	if got != want {
		t.Errorf("%s is %d, want %d", what, got, want)
	}
}

// stands holds all that a service tells.
func stands(t *testing.T, s *view.Service, isSettled bool, views ...api.View) {
	t.Helper()
	if got := s.Now(); got != views[len(views)-1] {
		t.Errorf("P12.4: Now() = %v, want %v", got, views[len(views)-1])
	}
	if got := s.Settled(); got != isSettled {
		t.Errorf("P12.4: Settled() = %v, want %v", got, isSettled)
	}
	if got := s.All(); !slices.Equal(got, views) {
		t.Errorf("P12.4: All() = %s, want %s", tell(got), tell(views))
	}
	if got := s.Take(101, asking()); !sameNotes(got, told(views[len(views)-1])) {
		t.Errorf("P12.5: to NoteAsk the service answers %s", tell(got))
	}
}

// chance makes the same calls in every run.
type chance struct{ *rand.Rand }

func chanceOf(seed, kind uint64) chance { return chance{rand.New(rand.NewPCG(seed, kind))} }

func pick[T any](c chance, from ...T) T { return from[c.IntN(len(from))] }
