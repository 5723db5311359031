package fan_test

import (
	"fmt"
	"math"
	"math/rand/v2"
	"slices"
	"testing"

	"herald/api"
	"herald/fan"
	"herald/state"
	"herald/wire"
)

const most = api.MaxNumber

// ends are numbers at and around the ends of what a number may be, and of what an int can be.
func ends() []int {
	return []int{math.MinInt, math.MinInt + 1, -most - 1, -most, -1, 0, 1, 2, api.MaxWatches, api.MaxWatches + 1, api.MaxQueue - 1, api.MaxQueue, api.MaxQueue + 1, api.MaxRing - 1, api.MaxRing, api.MaxRing + 1, most - 1, most, most + 1, 1 << 32, 1<<32 + 1, math.MaxInt - 1, math.MaxInt}
}

// story is a history with a machine at each of its stamps: so a call can be given any of them, at any time.
type story struct {
	begin    int
	machines []*state.Machine // at begin, at begin + 1, and so on
	changes  [][]api.Change   // what the last entry of each of these machines has changed
}

func storyOf(t *testing.T, begin int, entries ...api.Entry) *story {
	t.Helper()
	s := &story{begin: begin, machines: []*state.Machine{machineAt(t, begin)}, changes: [][]api.Change{nil}}
	for _, e := range entries {
		s.goOn(t, e)
	}
	return s
}

// goOn plays one entry more; its stamp and view are given here.
func (s *story) goOn(t *testing.T, e api.Entry) {
	t.Helper()
	m := copyOf(t, s.at(s.end()))
	e.Stamp, e.View = s.end()+1, 1
	_, changes, code := m.Apply(e)
	is(t, "P8.1: Apply of "+tell(e), code, api.OK)
	s.machines, s.changes = append(s.machines, m), append(s.changes, changes)
}

func (s *story) end() int                    { return s.begin + len(s.machines) - 1 }
func (s *story) at(stamp int) *state.Machine { return s.machines[stamp-s.begin] }
func (s *story) of(stamp int) []api.Change   { return s.changes[stamp-s.begin] }
func (s *story) part(stamp int, w api.Watch) api.Shot {
	shot, _ := s.at(stamp).Part(w.Place, w.Kind)
	return shot
}

// machineAt is a machine without a node but the root, at a stamp.
func machineAt(t *testing.T, stamp int) *state.Machine {
	t.Helper()
	number, _ := wire.Number(stamp)
	m, code := state.Thaw(string(number) + state.New().Freeze()[1:])
	is(t, "P8.8: Thaw", code, api.OK)
	return m
}

func copyOf(t *testing.T, m *state.Machine) *state.Machine {
	t.Helper()
	c, code := state.Thaw(m.Freeze())
	is(t, "P8.9: Thaw", code, api.OK)
	return c
}

func opens(session int) api.Entry { return api.Entry{Kind: api.EntryOpen, Session: session} }

func asks(session, request int, ops ...api.Op) api.Entry {
	return api.Entry{Kind: api.EntryRequest, Session: session, Request: request, Ops: ops}
}

func makes(place, data string) api.Op { return api.Op{Kind: api.OpMake, Place: place, Data: data} }

func makesBrief(place string) api.Op {
	return api.Op{Kind: api.OpMake, Place: place, Data: "brief", Flags: api.FlagBrief}
}

func sets(place, data string) api.Op {
	return api.Op{Kind: api.OpSet, Place: place, Data: data, Version: -1}
}

func drops(place string) api.Op { return api.Op{Kind: api.OpDrop, Place: place, Version: -1} }

// plain is a story in which every stamp has something else: changes of each kind, several of one node, and none.
func plain(t *testing.T, begin int) *story {
	t.Helper()
	return storyOf(t, begin,
		opens(7),
		asks(7, 1, makes("/a", "1"), makes("/b", "")),
		asks(7, 2, sets("/a", "2")),
		asks(7, 3, makes("/a", "refused")),
		asks(7, 4, makes("/a/c", "x"), sets("/b", "y"), sets("/a", "3"), sets("/a", "4")),
		asks(7, 5, drops("/a/c")),
		asks(7, 6, makesBrief("/a/d"), makes("/d", "")),
		api.Entry{Kind: api.EntryClose, Session: 7},
		opens(23),
		asks(23, 1, drops("/b"), sets("/", "root")))
}

// busy is a story of so many entries, each of which sets /a, behind one that makes it.
func busy(t *testing.T, begin, sets int) *story {
	t.Helper()
	s := storyOf(t, begin, opens(7), asks(7, 1, makes("/a", "")))
	for i := range sets {
		s.goOn(t, asks(7, 2+i, api.Op{Kind: api.OpSet, Place: "/a", Data: tell(i), Version: -1}))
	}
	return s
}

func watch(id int, place string, kind, from int) api.Watch {
	return api.Watch{Id: id, Place: place, Kind: kind, From: from}
}

// all is a watch of everything.
func all(id, from int) api.Watch { return watch(id, "/", api.WatchSubtree, from) }

func sameTagged(a, b api.Tagged) bool { return a.Change == b.Change && slices.Equal(a.Tags, b.Tags) }

func samePart(a, b api.Part) bool {
	return a.Id == b.Id && a.Shot.Stamp == b.Shot.Stamp && a.Shot.Place == b.Shot.Place && a.Shot.Kind == b.Shot.Kind && slices.Equal(a.Shot.Nodes, b.Shot.Nodes)
}

func same(a, b api.Item) bool {
	return a.Stamp == b.Stamp && a.After == b.After && a.Marker == b.Marker && slices.EqualFunc(a.Changes, b.Changes, sameTagged) && slices.EqualFunc(a.Parts, b.Parts, samePart)
}

func sameAll(a, b []api.Item) bool { return slices.EqualFunc(a, b, same) }

// tell is a value as a text that is not too long to be read.
func tell(v any) string {
	return fmt.Sprintf("%.700s", fmt.Sprintf("%+v", v))
}

func is(t *testing.T, what string, got, want api.Errno) {
	t.Helper()
	if got != want {
		t.Errorf("%s says %d, want %d", what, got, want)
	}
}

func count(t *testing.T, what string, got, want int) {
	t.Helper()
	if got != want {
		t.Errorf("%s is %d, want %d", what, got, want)
	}
}

func made(t *testing.T, room, keep, floor int) *fan.Hub {
	t.Helper()
	h, code := fan.New(room, keep, floor)
	if h == nil || code != api.OK {
		t.Fatalf("P11.1: New(%d, %d, %d) = %v, %d", room, keep, floor, h != nil, code)
	}
	return h
}

// hall is a hub with the story that it is told.
type hall struct {
	t *testing.T
	*fan.Hub
	*story
}

func hallOf(t *testing.T, room, keep int, s *story) hall {
	t.Helper()
	return hall{t, made(t, room, keep, s.begin), s}
}

func (x hall) now() *state.Machine { return x.at(x.Last()) }

// commit hands on the story's entries up to a stamp.
func (x hall) commit(upTo int) {
	x.t.Helper()
	for stamp := x.Last() + 1; stamp <= upTo; stamp++ {
		is(x.t, "P11.2: Commit("+tell(stamp)+")", x.Commit(stamp, x.of(stamp), x.at(stamp)), api.OK)
	}
}

func (x hall) resume(session, conn, last int, watches ...api.Watch) {
	x.t.Helper()
	is(x.t, "P11.3: Resume", x.Resume(session, conn, last, watches, x.now()), api.OK)
}

// watches asks for a watch that is granted.
func (x hall) watches(session, conn int, w api.Watch) {
	x.t.Helper()
	want := api.Part{Id: w.Id, Shot: x.part(x.Last(), w)}
	if got, code := x.Watch(session, conn, w, x.now()); code != api.OK || !samePart(got, want) {
		x.t.Errorf("P11.4: Watch(%d, %d, %+v) = %s, %d; want %s", session, conn, w, tell(got), code, tell(want))
	}
}

// event is what a session with these watches is told of an entry of the story.
func (x hall) event(stamp, after int, watches ...api.Watch) api.Item {
	return api.Item{Stamp: stamp, After: after, Changes: taggedFor(watches, stamp, x.of(stamp))}
}

func (x hall) marker(stamp, after int, watches ...api.Watch) api.Item {
	return api.Item{Stamp: stamp, After: after, Marker: true, Parts: partsAt(x.at(stamp), watches)}
}

func (x hall) tells(session int, want ...api.Item) {
	x.t.Helper()
	if got := x.Next(session, math.MaxInt); !sameAll(got, want) {
		x.t.Errorf("P11.6: Next(%d) = %s, want %s", session, tell(got), tell(want))
	}
}

func (x hall) has(session int, want ...api.Watch) {
	x.t.Helper()
	if got := x.Watches(session); !slices.Equal(got, want) {
		x.t.Errorf("P11.7: Watches(%d) = %s, want %s", session, tell(got), tell(want))
	}
}

// seats holds what Sessions tells: sessions, each with its connection and the number of its items.
func (x hall) seats(want ...[3]int) {
	x.t.Helper()
	a, b, c := x.Sessions()
	var got [][3]int
	for i := range min(len(a), len(b), len(c)) {
		got = append(got, [3]int{a[i], b[i], c[i]})
	}
	if len(a) != len(b) || len(b) != len(c) || !slices.Equal(got, want) {
		x.t.Errorf("P11.7: Sessions() = %v, %v, %v, want %v", a, b, c, want)
	}
}

// empties are the hubs that nobody made.
func empties() map[string]*fan.Hub {
	return map[string]*fan.Hub{"a nil hub": nil, "a zero hub": {}}
}

// chance makes the same calls in every run.
type chance struct{ *rand.Rand }

func chanceOf(seed, kind uint64) chance { return chance{rand.New(rand.NewPCG(seed, kind))} }

func pick[T any](c chance, from ...T) T { return from[c.IntN(len(from))] }

// story is one by chance: entries of one to four ops that mostly change something.
func (c chance) story(t *testing.T, begin, length int) *story {
	t.Helper()
	s := storyOf(t, begin, opens(7))
	place := func() string {
		return pick(c, "/", "/a", "/a", "/b", "/a/c", "/a/c", "/b/c", "/a/c/e", "/a-b", "/d")
	}
	for request := 1; request < length; request++ {
		// Each is tried alone: so one that is refused does not take the others with it.
		var ops []api.Op
		for range pick(c, 1, 1, 2, 3, 4) {
			op := pick(c, makes(place(), pick(c, "", "x")), makes(place(), "y"), sets(place(), tell(request)), sets("/a", "z"), drops(place()), makesBrief(place()))
			trial := copyOf(t, s.at(s.end()))
			if reply, _, _ := trial.Apply(api.Entry{Stamp: s.end() + 1, View: 1, Kind: api.EntryRequest, Session: 7, Request: request, Ops: append(slices.Clone(ops), op)}); reply.Code == api.OK {
				ops = append(ops, op)
			}
		}
		s.goOn(t, asks(7, request, ops...))
	}
	return s
}
