package pair_test

import (
	"fmt"
	"math"
	"math/rand/v2"
	"reflect"
	"slices"
	"testing"

	"herald/api"
	"herald/pair"
)

const most = api.MaxNumber

// ends are numbers at and around the ends of what a node, a room, a stamp and an int can be.
func ends() []int {
	return []int{math.MinInt, math.MinInt + 1, -1 << 32, -most - 1, -most, -2, -1, 0, 1, 2, 3, 4, api.MaxPeers, api.MaxPeers + 1, api.MaxRing, api.MaxRing + 1, 100, 101, 106, most - 1, most, most + 1, 1 << 32, 1<<32 + 1, math.MaxInt - 1, math.MaxInt}
}

// near are the ends, and the numbers around some others.
func near(numbers ...int) []int {
	list := ends()
	for _, number := range numbers {
		list = append(list, number-2, number-1, number, number+1, number+2)
	}
	slices.Sort(list)
	return slices.Compact(list)
}

func viewOf(num, primary, backup int) api.View {
	return api.View{Num: num, Primary: primary, Backup: backup}
}

// ent is an entry that may be, with something in every field, which no other stamp or view has.
func ent(stamp, view int) api.Entry {
	if stamp%4 == 0 {
		return api.Entry{Stamp: stamp, View: view, Kind: api.EntryOpen + stamp/4%3, Session: stamp/2 + 1}
	}
	e := api.Entry{Stamp: stamp, View: view, Kind: api.EntryRequest, Session: view/2 + 1, Request: stamp}
	for i := range stamp % 4 {
		name := fmt.Sprintf("%d.%d.%d", stamp, view, i)
		e.Ops = append(e.Ops, api.Op{Kind: i, Place: "/place" + name, Data: "data" + name, Version: i - 1, Flags: view})
	}
	return e
}

// run are entries behind a stamp, of these views.
func run(stamp int, views ...int) []api.Entry {
	var list []api.Entry
	for i, view := range views {
		list = append(list, ent(stamp+1+i, view))
	}
	return list
}

// request is an entry as it is proposed: what it has as stamp and view does not matter.
func request(number int) api.Entry {
	e := ent(4*number+2, number)
	e.Stamp, e.View = -number, most+number
	return e
}

// placed is an entry with that stamp and view.
func placed(e api.Entry, stamp, view int) api.Entry {
	e.Stamp, e.View = stamp, view
	return e
}

func entry(e api.Entry) api.Record { return api.Record{Kind: api.RecordEntry, Entry: e} }

func view(num, primary, backup int) api.Record {
	return api.Record{Kind: api.RecordView, View: viewOf(num, primary, backup)}
}

func matched(num int) api.Record {
	return api.Record{Kind: api.RecordMatched, View: api.View{Num: num}}
}

func reset(num, stamp, of int, state string) api.Record {
	return api.Record{Kind: api.RecordReset, View: api.View{Num: num}, Stamp: stamp, Of: of, State: state}
}

func commit(stamp int) api.Record { return api.Record{Kind: api.RecordCommit, Stamp: stamp} }

func noteOf(kind, num int) api.Note { return api.Note{Kind: kind, View: api.View{Num: num}} }

func join(num, stamp, of int) api.Note {
	n := noteOf(api.NoteJoin, num)
	n.Stamp, n.Of = stamp, of
	return n
}

func acked(num, stamp int) api.Note {
	n := noteOf(api.NoteAcked, num)
	n.Stamp = stamp
	return n
}

func appends(num, stamp, of, commit int, entries ...api.Entry) api.Note {
	n := noteOf(api.NoteAppend, num)
	n.Stamp, n.Of, n.Commit, n.Entries = stamp, of, commit, entries
	return n
}

func full(num, stamp, of int, state string) api.Note {
	n := noteOf(api.NoteFull, num)
	n.Stamp, n.Of, n.State = stamp, of, state
	return n
}

func probe(num int) api.Note { return noteOf(api.NoteProbe, num) }

// does is the act of these records, notes and wants, in any order; a note stands behind whom it goes to.
func does(things ...any) pair.Act {
	var act pair.Act
	for i, thing := range things {
		switch x := thing.(type) {
		case api.Record:
			act.Records = append(act.Records, x)
		case []api.Record:
			act.Records = append(act.Records, x...)
		case api.Note:
			act.Notes = append(act.Notes, pair.Out{To: things[i-1].(int), Note: x})
		case want:
			act.Want = append(act.Want, int(x))
		}
	}
	return act
}

// want is a node that wants a full transfer.
type want int

// settles is the note to the service by which a view is settled; asks is the one that asks for the present view.
func settles(num int) pair.Act { return does(0, noteOf(api.NoteSettled, num)) }

func asks() pair.Act { return does(0, api.Note{Kind: api.NoteAsk}) }

// both is one act behind another.
func both(acts ...pair.Act) pair.Act {
	var all pair.Act
	for _, a := range acts {
		all.Records = append(all.Records, a.Records...)
		all.Notes = append(all.Notes, a.Notes...)
		all.Want = append(all.Want, a.Want...)
	}
	return all
}

// bare is an entry whose list of ops is nil, if it has none.
func bare(e api.Entry) api.Entry {
	if len(e.Ops) == 0 {
		e.Ops = nil
	}
	return e
}

// tidy is an act in which every list without an element is nil.
func tidy(a pair.Act) pair.Act {
	a = both(a)
	for i := range a.Records {
		a.Records[i].Entry = bare(a.Records[i].Entry)
	}
	for i := range a.Notes {
		n := &a.Notes[i].Note
		var entries []api.Entry
		for _, e := range n.Entries {
			entries = append(entries, bare(e))
		}
		n.Entries = entries
	}
	return a
}

func sameAct(a, b pair.Act) bool { return reflect.DeepEqual(tidy(a), tidy(b)) }

func same(a, b api.Entry) bool { return reflect.DeepEqual(bare(a), bare(b)) }

func sameAll(a, b []api.Entry) bool { return slices.EqualFunc(a, b, same) }

// tell is a value as a text that is not too long to be read.
func tell(v any) string {
	return fmt.Sprintf("%.700s", fmt.Sprintf("%+v", v))
}

func is(t *testing.T, what string, got, want api.Errno) {
	t.Helper()
	if got != want {
		t.Errorf("%s says %d, want %d", what, got, want)
	}
}

func acts(t *testing.T, what string, got, want pair.Act) {
	t.Helper()
	if !sameAct(got, want) {
		t.Errorf("%s answers\n%s, want\n%s", what, tell(got), tell(want))
	}
}

// nothing holds that an act is empty.
func nothing(t *testing.T, what string, got pair.Act) {
	t.Helper()
	acts(t, what, got, pair.Act{})
}

// made is a core over what a journal says.
func made(t *testing.T, self, room int, s api.Saved) *pair.Core {
	t.Helper()
	c, _, code := pair.New(self, room, s)
	if c == nil || code != api.OK {
		t.Fatalf("P13.1: New(%d, %d, %s) = %v, %d", self, room, tell(s), c != nil, code)
	}
	return c
}

// proposes holds that a core takes an entry, and what it does then.
func proposes(t *testing.T, c *pair.Core, e api.Entry, stamp int, want pair.Act) {
	t.Helper()
	got, act, code := c.Propose(e)
	if got != stamp || code != api.OK {
		t.Errorf("P13.4: Propose = %d, %d, want %d", got, code, stamp)
	}
	acts(t, "P13.4: Propose", act, want)
}

// refuses holds that a core does not take an entry, and why.
func refuses(t *testing.T, what string, c *pair.Core, why api.Errno) {
	t.Helper()
	stamp, act, code := c.Propose(request(1))
	if stamp != 0 || code != why {
		t.Errorf("P13.4: %s: Propose = %d, %d, want %d", what, stamp, code, why)
	}
	nothing(t, "P13.4: "+what+": Propose", act)
}

// look is all that a core shows without being changed by it: what it tells, the log with its hold, and what it would say next.
type look struct {
	view      api.View
	active    bool
	commit    int
	floor, of int
	entries   []api.Entry
	tick      pair.Act
}

func lookAt(t *testing.T, c *pair.Core) look {
	t.Helper()
	l := look{view: c.View(), active: c.Active(), commit: c.Commit(), tick: tidy(c.Tick())}
	l.floor, l.of = c.Log().Floor()
	for e := range c.Log().All() {
		l.entries = append(l.entries, bare(e))
	}
	// A hold that is refused one below the commit, and is taken there, is the commit.
	if c.Log().Hold(l.commit-1) != api.ErrHeld || c.Log().Hold(l.commit) != api.OK {
		t.Errorf("P13.1: the hold of the log is not the commit, %d", l.commit)
	}
	return l
}

func (l look) is(other look) bool { return reflect.DeepEqual(l, other) }

// stands holds what a core tells.
func stands(t *testing.T, c *pair.Core, v api.View, active bool, commit, floor, of int, entries ...api.Entry) {
	t.Helper()
	l := lookAt(t, c)
	if l.view != v || l.active != active || l.commit != commit || l.floor != floor || l.of != of || !sameAll(l.entries, entries) {
		t.Errorf("P13.7: there stands %s, want %v %v %d, floor %d of %d, %s", tell(l), v, active, commit, floor, of, tell(entries))
	}
}

// chance makes the same calls in every run.
type chance struct{ *rand.Rand }

func chanceOf(seed, kind uint64) chance { return chance{rand.New(rand.NewPCG(seed, kind))} }

func pick[T any](c chance, from ...T) T { return from[c.IntN(len(from))] }
