package audit_test

import (
	"fmt"
	"math"
	"math/rand/v2"
	"reflect"
	"runtime/debug"
	"testing"

	"herald/api"
	"herald/audit"
	"herald/state"
)

// TestMain: little is held at any time, so that without this much of the time would go by collecting garbage.
func TestMain(m *testing.M) {
	debug.SetGCPercent(800)
	m.Run()
}

const most = api.MaxNumber

// ends are numbers at and around the ends of what a number and an int can be.
func ends() []int {
	return []int{math.MinInt, math.MinInt + 1, -1 << 32, -most - 1, -most, -2, -1, 0, 1, 2, 3, most - 1, most, most + 1, 1 << 32, 1<<32 + 1, math.MaxInt - 1, math.MaxInt}
}

// Ops:

func makes(place, data string) api.Op { return api.Op{Kind: api.OpMake, Place: place, Data: data} }

func makesBrief(place, data string) api.Op {
	return api.Op{Kind: api.OpMake, Place: place, Data: data, Flags: api.FlagBrief}
}

func sets(place, data string) api.Op {
	return api.Op{Kind: api.OpSet, Place: place, Data: data, Version: -1}
}

func drops(place string) api.Op { return api.Op{Kind: api.OpDrop, Place: place, Version: -1} }

func gets(place string) api.Op { return api.Op{Kind: api.OpGet, Place: place} }

func lists(place string) api.Op { return api.Op{Kind: api.OpList, Place: place} }

// Entries:

func opens(session int) api.Entry { return api.Entry{Kind: api.EntryOpen, Session: session} }

func closes(session int) api.Entry { return api.Entry{Kind: api.EntryClose, Session: session} }

func expires(session int) api.Entry { return api.Entry{Kind: api.EntryExpire, Session: session} }

func asks(session, number int, ops ...api.Op) api.Entry {
	return api.Entry{Kind: api.EntryRequest, Session: session, Request: number, Ops: ops}
}

// story is a history of these entries: the stamps 1, 2, 3 and so on, all of view 1.
func story(entries ...api.Entry) []api.Entry {
	for i := range entries {
		entries[i].Stamp, entries[i].View = i+1, 1
	}
	return entries
}

// shortStory is that of the chapter's examples.
func shortStory() []api.Entry {
	return story(opens(16), asks(16, 1, makes("/a", "x")), asks(16, 2, api.Op{Kind: api.OpSet, Place: "/a", Data: "y"}))
}

// longStory has every kind of entry and of change; 16 is the session whose client is told of it.
func longStory() []api.Entry {
	return story(
		opens(16),
		asks(16, 1, makes("/a", "x"), makes("/c", "")),   //         2 made /a, made /c
		asks(16, 2, makes("/a/b", "p"), sets("/a", "y")), //       3 made /a/b, set /a 1
		opens(5),
		asks(5, 1, makesBrief("/c/e", "brief"), sets("/c", "1")),          // 5 made /c/e, set /c 1
		asks(16, 3, sets("/a/b", "q")),                                    // 6 set /a/b 1
		asks(16, 4, gets("/a"), lists("/")),                               // 7 nothing
		asks(16, 5, drops("/a/b"), makes("/a/b", "r"), sets("/a/b", "s")), // 8 gone /a/b, made /a/b 0, set /a/b 1
		closes(5),                               // 9 gone /c/e
		asks(16, 6, makes("/a", "")),            // 10 refused
		asks(16, 7, sets("/", "root")),          // 11 set / 1
		asks(16, 8, drops("/a/b"), drops("/a")), // 12 gone /a/b, gone /a
		opens(32),                               // 13 ends 16
	)
}

// Told things, of client 1 and its session 16 where nothing else is said:

func of(client, session int, t api.Told) api.Told {
	t.Client, t.Session = client, session
	return t
}

func told(kind int) api.Told { return api.Told{Kind: kind, Client: 1, Session: 16} }

// called is that the entry at a stamp was asked for.
func called(history []api.Entry, stamp int) api.Told {
	e := history[stamp-1]
	return api.Told{Kind: api.ToldCall, Client: 1, Session: e.Session, Request: e.Request, Ops: e.Ops}
}

// heard is that it was answered.
func heard(history []api.Entry, stamp int) api.Told {
	e, reply := history[stamp-1], api.Reply{}
	m := state.New()
	for _, e := range history[:stamp] {
		reply, _, _ = m.Apply(e)
	}
	return api.Told{Kind: api.ToldReply, Client: 1, Session: e.Session, Request: e.Request, Stamp: reply.Stamp, Reply: reply}
}

// shotAt is the part of the model's tree behind the entry at a stamp; without nodes, where there is none.
func shotAt(history []api.Entry, stamp int, at string, kind int) api.Shot {
	m := state.New()
	for _, e := range history[:max(0, min(stamp, len(history)))] {
		m.Apply(e)
	}
	s, _ := m.Part(at, kind)
	return api.Shot{Stamp: stamp, Place: at, Kind: kind, Nodes: s.Nodes}
}

// granted is that a watch was granted, truly.
func granted(history []api.Entry, id, stamp int, at string, kind int) api.Told {
	t := told(api.ToldWatched)
	t.Stamp = stamp
	t.Watch = api.Watch{Id: id, Place: at, Kind: kind, From: stamp}
	t.Part = api.Part{Id: id, Shot: shotAt(history, stamp, at, kind)}
	return t
}

func givesUp(id int) api.Told {
	t := told(api.ToldUnwatch)
	t.Watch.Id = id
	return t
}

func takes(item api.Item) api.Told {
	t := told(api.ToldItem)
	t.Stamp, t.Item = item.Stamp, item
	return t
}

func event(stamp int, changes ...api.Tagged) api.Told {
	return takes(api.Item{Stamp: stamp, Changes: changes})
}

// tagged is a change with ids of watches.
func tagged(kind int, at, data string, version int, ids ...int) api.Tagged {
	return api.Tagged{Change: api.Change{Kind: kind, Place: at, Data: data, Version: version}, Tags: ids}
}

func made(at, data string, ids ...int) api.Tagged { return tagged(api.ChangeMade, at, data, 0, ids...) }

func set(at, data string, version int, ids ...int) api.Tagged {
	return tagged(api.ChangeSet, at, data, version, ids...)
}

func gone(at string, version int, ids ...int) api.Tagged {
	return tagged(api.ChangeGone, at, "", version, ids...)
}

func marker(stamp int, parts ...api.Part) api.Told {
	return takes(api.Item{Stamp: stamp, Marker: true, Parts: parts})
}

// part is one of a marker, truly.
func part(history []api.Entry, id, stamp int, at string, kind int) api.Part {
	return api.Part{Id: id, Shot: shotAt(history, stamp, at, kind)}
}

// changed is a told thing with something turned.
func changed(t api.Told, turn func(*api.Told)) api.Told {
	t = cloned(t)
	turn(&t)
	return t
}

// Calls:

type looking func(history []api.Entry, told []api.Told) (api.Errno, int)

// faces are the calls that look at told things.
func faces() map[string]looking {
	return map[string]looking{"Replies": audit.Replies, "Items": audit.Items, "Check": audit.Check}
}

// caseOf is what a call should answer to told things.
type caseOf struct {
	name string
	told []api.Told
	code api.Errno
	at   int
}

// holds holds a call against cases.
func holds(t *testing.T, promise string, look looking, history []api.Entry, cases []caseOf) {
	t.Helper()
	for _, c := range cases {
		if code, at := look(history, c.told); code != c.code || at != c.at {
			t.Errorf("%s: %s: %d, %d, want %d, %d", promise, c.name, code, at, c.code, c.at)
		}
	}
}

// is holds something against what it should be.
func is(t *testing.T, what string, got, want any) {
	t.Helper()
	if !same(got, want) {
		t.Errorf("%s = %s, want %s", what, tell(got), tell(want))
	}
}

// same tells whether two values are the same; a nil list is the same as an empty one.
func same(a, b any) bool { return sameValue(reflect.ValueOf(a), reflect.ValueOf(b)) }

func sameValue(a, b reflect.Value) bool {
	switch a.Kind() {
	case reflect.Slice:
		if a.Len() != b.Len() {
			return false
		}
		for i := range a.Len() {
			if !sameValue(a.Index(i), b.Index(i)) {
				return false
			}
		}
		return true
	case reflect.Struct:
		for i := range a.NumField() {
			if !sameValue(a.Field(i), b.Field(i)) {
				return false
			}
		}
		return true
	}
	return a.Equal(b)
}

// tell is a value as a text that is not too long to be read.
func tell(v any) string { return fmt.Sprintf("%.700s", fmt.Sprintf("%+v", v)) }

// cloned is a value with lists of its own.
func cloned[T any](v T) T {
	return clonedValue(reflect.ValueOf(v)).Interface().(T)
}

func clonedValue(v reflect.Value) reflect.Value {
	next := reflect.New(v.Type()).Elem()
	switch v.Kind() {
	case reflect.Slice:
		if v.IsNil() {
			break
		}
		next.Set(reflect.MakeSlice(v.Type(), v.Len(), v.Len()))
		for i := range v.Len() {
			next.Index(i).Set(clonedValue(v.Index(i)))
		}
	case reflect.Struct:
		for i := range v.NumField() {
			next.Field(i).Set(clonedValue(v.Field(i)))
		}
	default:
		next.Set(v)
	}
	return next
}

// twisted are the values that differ from v in one thing: a number, a text, a yes, or a list's element that is there no more, twice, at another's place, or new.
func twisted[T any](v T) []T {
	var all []T
	for k := 0; ; k++ {
		next, left := cloned(v), k
		if !twist(reflect.ValueOf(&next).Elem(), &left) {
			return all
		}
		if !same(next, v) {
			all = append(all, next)
		}
	}
}

// twist makes one of the twists that a value has; or tells that it has not so many, and leaves how many are wanted yet.
func twist(v reflect.Value, left *int) bool {
	turns := func(turn func()) bool {
		*left--
		if *left == -1 {
			turn()
		}
		return *left < 0
	}
	switch v.Kind() {
	case reflect.Int:
		return turns(func() { v.SetInt(v.Int() + 1) }) || turns(func() { v.SetInt(v.Int() - 1) })
	case reflect.String:
		return turns(func() { v.SetString(v.String() + "x") }) || v.Len() > 0 && turns(func() { v.SetString(v.String()[1:]) })
	case reflect.Bool:
		return turns(func() { v.SetBool(!v.Bool()) })
	case reflect.Struct:
		for i := range v.NumField() {
			if twist(v.Field(i), left) {
				return true
			}
		}
	case reflect.Slice:
		return twistList(v, left, turns)
	}
	return false
}

func twistList(v reflect.Value, left *int, turns func(func()) bool) bool {
	n := v.Len()
	for i := range n {
		if twist(v.Index(i), left) {
			return true
		}
		isTurned := turns(func() { v.Set(reflect.AppendSlice(v.Slice3(0, i, i), v.Slice(i+1, n))) }) ||
			turns(func() { v.Set(reflect.AppendSlice(v.Slice3(0, i+1, i+1), v.Slice(i, n))) }) ||
			i > 0 && turns(func() { reflect.Swapper(v.Interface())(i-1, i) })
		if isTurned {
			return true
		}
	}
	return turns(func() { v.Set(reflect.Append(v.Slice3(0, n, n), reflect.Zero(v.Type().Elem()))) })
}

// chance makes the same things in every run.
type chance struct{ *rand.Rand }

func chanceOf(seed, kind uint64) chance { return chance{rand.New(rand.NewPCG(seed, kind))} }

func pick[T any](c chance, from ...T) T { return from[c.IntN(len(from))] }
