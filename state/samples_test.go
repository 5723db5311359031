package state_test

import (
	"fmt"
	"math"
	"math/rand/v2"
	"reflect"
	"slices"
	"strings"
	"testing"

	"herald/api"
	"herald/state"
)

const most = api.MaxNumber

// ends are numbers at and around the ends of what a number may be, and of what an int can be.
func ends() []int {
	return []int{math.MinInt, math.MinInt + 1, -most - 1, -1, 0, 1, 2, api.MaxSlots - 1, api.MaxSlots, api.MaxSlots + 1, most - 1, most, most + 1, 1 << 32, 1<<32 + 1, math.MaxInt - 1, math.MaxInt}
}

func open(stamp, session int) api.Entry {
	return api.Entry{Stamp: stamp, View: 1, Kind: api.EntryOpen, Session: session}
}

func shut(stamp, session int) api.Entry {
	return api.Entry{Stamp: stamp, View: 1, Kind: api.EntryClose, Session: session}
}

func expire(stamp, session int) api.Entry {
	return api.Entry{Stamp: stamp, View: 1, Kind: api.EntryExpire, Session: session}
}

func ask(stamp, session, request int, ops ...api.Op) api.Entry {
	return api.Entry{Stamp: stamp, View: 1, Kind: api.EntryRequest, Session: session, Request: request, Ops: ops}
}

func makes(place, data string, flags ...int) api.Op {
	op := api.Op{Kind: api.OpMake, Place: place, Data: data}
	for _, f := range flags {
		op.Flags |= f
	}
	return op
}

func sets(place, data string) api.Op {
	return api.Op{Kind: api.OpSet, Place: place, Data: data, Version: -1}
}

func gets(place string) api.Op  { return api.Op{Kind: api.OpGet, Place: place} }
func lists(place string) api.Op { return api.Op{Kind: api.OpList, Place: place} }
func drops(place string) api.Op { return api.Op{Kind: api.OpDrop, Place: place, Version: -1} }

func ok(stamp int, results ...api.Result) api.Reply {
	return api.Reply{Stamp: stamp, Results: results}
}

func bad(stamp int, code api.Errno) api.Reply { return api.Reply{Stamp: stamp, Code: code} }

func made(place, data string) api.Change {
	return api.Change{Kind: api.ChangeMade, Place: place, Data: data}
}

func gone(places ...string) []api.Change {
	var all []api.Change
	for _, p := range places {
		all = append(all, api.Change{Kind: api.ChangeGone, Place: p})
	}
	return all
}

func sameReply(a, b api.Reply) bool {
	return a.Stamp == b.Stamp && a.Code == b.Code && a.At == b.At && slices.EqualFunc(a.Results, b.Results, sameResult)
}

func sameResult(a, b api.Result) bool {
	kids := slices.Equal(a.Kids, b.Kids)
	a.Kids, b.Kids = nil, nil
	return kids && reflect.DeepEqual(a, b)
}

// plays holds what Apply answers to an entry that is played.
func plays(t *testing.T, what string, m *state.Machine, e api.Entry, want api.Reply, changes ...api.Change) {
	t.Helper()
	reply, told, code := m.Apply(e)
	if code != api.OK || !sameReply(reply, want) || !slices.Equal(told, changes) {
		t.Errorf("%s: Apply(%s) = %s, %s, %d; want %s, %s", what, tell(e), tell(reply), tell(told), code, tell(want), tell(changes))
	}
	if m.Last() != e.Stamp {
		t.Errorf("P8.1: behind the entry %d Last is %d", e.Stamp, m.Last())
	}
}

// refuses holds that Apply refuses an entry, and changes nothing.
func refuses(t *testing.T, what string, m *state.Machine, e api.Entry, want api.Errno) {
	t.Helper()
	ahead := m.Freeze()
	reply, told, code := m.Apply(e)
	if code != want || !sameReply(reply, api.Reply{}) || len(told) != 0 {
		t.Errorf("%s: Apply(%s) = %s, %s, %d; want %d", what, tell(e), tell(reply), tell(told), code, want)
	}
	if m.Freeze() != ahead {
		t.Errorf("%s: Apply(%s) is refused, and changes %x to %x", what, tell(e), ahead, m.Freeze())
	}
}

// keeps holds what Kept tells of an open session.
func keeps(t *testing.T, what string, m *state.Machine, session, number int, want api.Reply) {
	t.Helper()
	n, reply, code := m.Kept(session)
	if code != api.OK || n != number || !sameReply(reply, want) {
		t.Errorf("%s: Kept(%d) = %d, %s, %d; want %d, %s", what, session, n, tell(reply), code, number, tell(want))
	}
}

// keepsNone holds that a session is not open.
func keepsNone(t *testing.T, what string, m *state.Machine, session int) {
	t.Helper()
	n, reply, code := m.Kept(session)
	if code != api.ErrSession || n != 0 || !sameReply(reply, api.Reply{}) || slices.Contains(m.Sessions(), session) {
		t.Errorf("%s: Kept(%d) = %d, %s, %d; Sessions %v", what, session, n, tell(reply), code, m.Sessions())
	}
}

// played is a machine that has played these entries, numbered from 1 on.
func played(t *testing.T, entries ...api.Entry) *state.Machine {
	t.Helper()
	m := state.New()
	for i, e := range entries {
		e.Stamp = i + 1
		if _, _, code := m.Apply(e); code != api.OK {
			t.Fatalf("P8.1: Apply(%s) says %d", tell(e), code)
		}
	}
	return m
}

// thawed is the machine of a text that Thaw takes.
func thawed(t *testing.T, text string) *state.Machine {
	t.Helper()
	m, code := state.Thaw(text)
	if code != api.OK || m == nil {
		t.Fatalf("P8.8: Thaw(%.400x) = %v, %d", text, m, code)
	}
	return m
}

// tell is a value as a text that is not too long to be read.
func tell(v any) string {
	return fmt.Sprintf("%.500s", fmt.Sprintf("%+v", v))
}

// long is a name with the most bytes, which no other number has.
func long(i int) string { return fmt.Sprintf("%s%02d", strings.Repeat("n", api.MaxName-2), i) }

// rich has entries of every kind, with something in every list.
func rich() []api.Entry {
	return []api.Entry{
		open(1, 1), open(2, 2), open(3, 17), open(4, 31), open(5, 48),
		ask(6, 17, 4, makes("/a", "some data"), makes("/a/b", "of b", api.FlagBrief), makes("/a/n", "counted", api.FlagCounted, api.FlagBrief), lists("/a")),
		ask(7, 2, 1, sets("/a", "other data"), gets("/a"), lists("/"), lists("/a")),
		ask(8, 31, most, makes("/a", "")),
		ask(9, 48, 7, makes("/c", "of c", api.FlagBrief), drops("/x")),
		ask(10, 48, 8, makes("/c", "of c", api.FlagBrief), makes("/a/n", "", api.FlagCounted), lists("/a"), gets("/c")),
		shut(11, 31), open(12, 47), open(13, 33), ask(14, 33, 1),
	}
}

// chance makes the same calls in every run.
type chance struct{ *rand.Rand }

func chanceOf(seed, kind uint64) chance { return chance{rand.New(rand.NewPCG(seed, kind))} }

func pick[T any](c chance, from ...T) T { return from[c.IntN(len(from))] }
