package recipe_test

import (
	"fmt"
	"math/rand/v2"
	"reflect"
	"runtime/debug"
	"slices"
	"strings"
	"testing"

	"herald/api"
	"herald/place"
	"herald/recipe"
)

// TestMain: little is held at any time, so that without this half of the time would go by collecting garbage.
func TestMain(m *testing.M) {
	debug.SetGCPercent(800)
	m.Run()
}

// Jobs:

func jobOf(kind int) api.Job {
	switch kind {
	case api.JobLock:
		return api.Job{Kind: kind, Base: "/l", Data: "x"}
	case api.JobElect:
		return api.Job{Kind: kind, Base: "/l", Data: "me"}
	case api.JobBarrier:
		return api.Job{Kind: kind, Base: "/l", Data: "b", Size: 2}
	case api.JobPut:
		return api.Job{Kind: kind, Base: "/l", Data: "it", Size: 2}
	}
	return api.Job{Kind: kind, Base: "/l", Size: 2}
}

func allKinds() []int {
	return []int{api.JobLock, api.JobElect, api.JobBarrier, api.JobCounter, api.JobPut, api.JobTake}
}

// nameOf is what the names of a job's nodes begin with.
func nameOf(kind int) string {
	return map[int]string{api.JobLock: "lock-", api.JobElect: "vote-", api.JobBarrier: "wait-", api.JobPut: "item-", api.JobTake: "item-"}[kind]
}

// isBrief tells whether a job has a node that goes with its session.
func isBrief(kind int) bool {
	return kind == api.JobLock || kind == api.JobElect || kind == api.JobBarrier
}

// allCodes are the codes that a reply or a grant may have, and some that none has.
func allCodes() []api.Errno {
	codes := []api.Errno{api.OK, api.ErrArg, api.ErrLong, api.ErrNumber, api.ErrPlace, -1, 5, 49, 1 << 40}
	for code := api.ErrNoNode; code <= api.ErrOp; code++ {
		codes = append(codes, code)
	}
	return append(codes, api.ErrOld, api.ErrSession, api.ErrRequest, api.ErrWatch, api.ErrFull, api.ErrAhead, api.ErrInactive, api.ErrClient, api.ErrJob, api.ErrDrill)
}

// Ops:

func makes(place, data string, flags int) api.Op {
	return api.Op{Kind: api.OpMake, Place: place, Data: data, Flags: flags}
}

func lists(place string) api.Op { return api.Op{Kind: api.OpList, Place: place} }

func gets(place string) api.Op { return api.Op{Kind: api.OpGet, Place: place} }

func sets(place, data string, version int) api.Op {
	return api.Op{Kind: api.OpSet, Place: place, Data: data, Version: version}
}

func drops(place string) api.Op { return api.Op{Kind: api.OpDrop, Place: place, Version: -1} }

// Wishes:

func does(ops ...api.Op) api.Wish { return api.Wish{Kind: api.WishDo, Ops: ops} }

func watches(at string, kind int) api.Wish {
	return api.Wish{Kind: api.WishWatch, Place: at, Watch: kind}
}

func unwatches(id int) api.Wish { return api.Wish{Kind: api.WishUnwatch, Id: id} }

// What a machine hears:

func called(request int, ops ...api.Op) api.Told {
	return api.Told{Kind: api.ToldCall, Request: request, Ops: ops}
}

func answered(request int, r api.Reply) api.Told {
	return api.Told{Kind: api.ToldReply, Request: request, Stamp: r.Stamp, Reply: r}
}

func watched(id int, place string, kind int) api.Told {
	return api.Told{Kind: api.ToldWatch, Watch: api.Watch{Id: id, Place: place, Kind: kind}}
}

func granted(id int, s api.Shot) api.Told {
	return api.Told{Kind: api.ToldWatched, Stamp: s.Stamp, Watch: api.Watch{Id: id, Place: s.Place, Kind: s.Kind, From: s.Stamp}, Part: api.Part{Id: id, Shot: s}}
}

func refused(id int, place string, kind int, code api.Errno) api.Told {
	return api.Told{Kind: api.ToldWatched, Code: code, Watch: api.Watch{Id: id, Place: place, Kind: kind}}
}

func taken(item api.Item) api.Told {
	return api.Told{Kind: api.ToldItem, Stamp: item.Stamp, Item: item}
}

func told(kind int) api.Told { return api.Told{Kind: kind} }

// What these are made of:

func refusal(stamp int, code api.Errno) api.Reply { return api.Reply{Stamp: stamp, Code: code} }

func results(stamp int, all ...api.Result) api.Reply { return api.Reply{Stamp: stamp, Results: all} }

func made(stamp int, place string) api.Reply {
	return results(stamp, api.Result{Place: place, Made: stamp, Changed: stamp})
}

func kids(stamp int, names ...string) api.Reply { return results(stamp, api.Result{Kids: names}) }

func shotOf(stamp int, place string, kind int, nodes ...api.Seen) api.Shot {
	return api.Shot{Stamp: stamp, Place: place, Kind: kind, Nodes: nodes}
}

// seen are nodes at places: places and their data by turns.
func seen(texts ...string) []api.Seen {
	var nodes []api.Seen
	for pair := range slices.Chunk(texts, 2) {
		nodes = append(nodes, api.Seen{Place: pair[0], Data: pair[1]})
	}
	return nodes
}

// bare are nodes at places as a watch of the kids sees them.
func bare(places ...string) []api.Seen {
	var nodes []api.Seen
	for _, p := range places {
		nodes = append(nodes, api.Seen{Place: p})
	}
	return nodes
}

// byPlace is the order of nodes in a picture.
func byPlace(a, b api.Seen) int { return place.Order(a.Place, b.Place) }

func event(stamp int, changes ...api.Tagged) api.Item {
	return api.Item{Stamp: stamp, Changes: changes}
}

func marker(stamp int, parts ...api.Part) api.Item {
	return api.Item{Stamp: stamp, Marker: true, Parts: parts}
}

func makesNode(place, data string, ids ...int) api.Tagged {
	return api.Tagged{Change: api.Change{Kind: api.ChangeMade, Place: place, Data: data}, Tags: ids}
}

func setsNode(place, data string, version int, ids ...int) api.Tagged {
	return api.Tagged{Change: api.Change{Kind: api.ChangeSet, Place: place, Data: data, Version: version}, Tags: ids}
}

func dropsNode(place string, ids ...int) api.Tagged {
	return api.Tagged{Change: api.Change{Kind: api.ChangeGone, Place: place}, Tags: ids}
}

// life is a machine that is played by hand; whatever it answers is held against the second reckoning, too.
type life struct {
	t       *testing.T
	job     api.Job
	m       *recipe.Machine
	g       *again
	ops     []api.Op // those of the WishDo that came last
	watch   api.Wish // the WishWatch that came last
	request int      // the number that was called last
	id      int      // the id that was told last
	stamp   int      // of what was heard last
	deeds   []deed   // all calls so far
}

func born(t *testing.T, job api.Job) *life {
	t.Helper()
	m, code := recipe.New(job)
	if m == nil || code != api.OK {
		t.Fatalf("P20.1: New(%+v) says %d", job, code)
	}
	return &life{t: t, job: job, m: m, g: startAgain(job)}
}

// both holds what a call has answered against the second reckoning, and takes those wishes up that will have to be heard of.
func (l *life) both(what func() string, got, again []api.Wish) []api.Wish {
	l.t.Helper()
	if !same(got, again) {
		l.t.Errorf("%s: %s\nthe second reckoning: %s", what(), tellWishes(got), tellWishes(again))
	}
	if held := l.m.Sight(); !same(held, l.g.held) {
		l.t.Errorf("behind %s Sight is %+v, the second reckoning has %+v", what(), held, l.g.held)
	}
	for _, w := range got {
		switch w.Kind {
		case api.WishDo:
			l.ops = w.Ops
		case api.WishWatch:
			l.watch = w
		}
	}
	return got
}

func (l *life) hear(t api.Told) []api.Wish {
	l.t.Helper()
	l.deeds = append(l.deeds, deed{kind: "hear", told: t})
	return l.both(func() string { return "Hear of " + tellFields(t) }, l.m.Hear(t), l.g.hears(t))
}

func (l *life) begin() []api.Wish {
	l.t.Helper()
	l.deeds = append(l.deeds, deed{kind: "begin"})
	return l.both(func() string { return "Begin" }, l.m.Begin(), l.g.begins())
}

func (l *life) leave() []api.Wish {
	l.t.Helper()
	l.deeds = append(l.deeds, deed{kind: "leave"})
	return l.both(func() string { return "Leave" }, l.m.Leave(), l.g.leaves())
}

func (l *life) giveUpLater(at string, kind int) {
	l.m.GiveUpLater(at, kind)
	l.g.late = append(l.g.late, watches(at, kind))
}

func (l *life) begins(want ...api.Wish) {
	l.t.Helper()
	if got := l.begin(); !same(got, want) {
		l.t.Errorf("P20.2: Begin: %s\nwant %s", tellWishes(got), tellWishes(want))
	}
}

func (l *life) leaves(want ...api.Wish) {
	l.t.Helper()
	if got := l.leave(); !same(got, want) {
		l.t.Errorf("P20.4: Leave: %s\nwant %s", tellWishes(got), tellWishes(want))
	}
}

func (l *life) hears(t api.Told, want ...api.Wish) {
	l.t.Helper()
	if got := l.hear(t); !same(got, want) {
		l.t.Errorf("Hear of %s: %s\nwant %s", tellFields(t), tellWishes(got), tellWishes(want))
	}
}

// calls: the request that was wished for last is called.
func (l *life) calls() {
	l.t.Helper()
	l.request++
	l.hears(called(l.request, l.ops...))
}

// answers: the request that was called last is answered.
func (l *life) answers(r api.Reply, want ...api.Wish) {
	l.t.Helper()
	l.hears(answered(l.request, r), want...)
}

// asked: the request that was wished for last is called, and answered.
func (l *life) asked(r api.Reply, want ...api.Wish) {
	l.t.Helper()
	l.calls()
	l.answers(r, want...)
}

// learns: the watch that was wished for last has an id.
func (l *life) learns() {
	l.t.Helper()
	l.id++
	l.hears(watched(l.id, l.watch.Place, l.watch.Watch))
}

// sees: the watch that was wished for last has an id, and is granted.
func (l *life) sees(stamp int, nodes []api.Seen, want ...api.Wish) {
	l.t.Helper()
	l.learns()
	l.hears(granted(l.id, shotOf(stamp, l.watch.Place, l.watch.Watch, nodes...)), want...)
}

// shows holds what Sight says.
func (l *life) shows(phase int, place string, stamp int, code api.Errno, values ...string) {
	l.t.Helper()
	want := api.Held{Phase: phase, Place: place, Stamp: stamp, Code: code, Values: values}
	if got := l.m.Sight(); !same(got, want) {
		l.t.Errorf("Sight is %+v, want %+v", got, want)
	}
}

// same tells whether two values are the same; a nil list is the same as an empty one.
func same(a, b any) bool { return sameValue(reflect.ValueOf(a), reflect.ValueOf(b)) }

func sameValue(a, b reflect.Value) bool {
	switch a.Kind() {
	case reflect.Slice:
		if a.Len() != b.Len() {
			return false
		}
		for i := range a.Len() {
			if !sameValue(a.Index(i), b.Index(i)) {
				return false
			}
		}
		return true
	case reflect.Struct:
		for i := range a.NumField() {
			if !sameValue(a.Field(i), b.Field(i)) {
				return false
			}
		}
		return true
	}
	return a.Equal(b)
}

func tellWishes(wishes []api.Wish) string {
	var texts []string
	for _, w := range wishes {
		texts = append(texts, tellFields(w))
	}
	return "[" + strings.Join(texts, ", ") + "]"
}

// tellFields leaves out what a struct does not have.
func tellFields(of any) string {
	v, text := reflect.ValueOf(of), ""
	for i := range v.NumField() {
		if !v.Field(i).IsZero() {
			text += fmt.Sprintf(" %s %+v", v.Type().Field(i).Name, v.Field(i))
		}
	}
	return fmt.Sprintf("{%.700s}", text)
}

// chance makes the same calls in every run.
type chance struct{ *rand.Rand }

func chanceOf(seed, kind uint64) chance { return chance{rand.New(rand.NewPCG(seed, kind))} }

func pick[T any](c chance, from ...T) T { return from[c.IntN(len(from))] }
