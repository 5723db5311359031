package audit_test

import (
	"cmp"
	"slices"
	"strings"
	"testing"

	"herald/api"
	"herald/audit"
	"herald/place"
	"herald/state"
)

// A second reckoning: nothing is kept while the told things are gone through; whatever is asked of one of them is found out anew from all that stand ahead of it.

// truth is what is so, by stamps.
type truth struct {
	machine *state.Machine
	history []api.Entry
	replies []api.Reply // one an entry
	changes [][]api.Change
	trees   [][]api.Seen
}

func newTruth() *truth {
	x := &truth{machine: state.New()}
	x.learn(nil)
	return x
}

// learn is behind an entry that has such changes, or ahead of all.
func (x *truth) learn(changes []api.Change) {
	whole, _ := x.machine.Part("/", api.WatchSubtree)
	x.changes, x.trees = append(x.changes, changes), append(x.trees, whole.Nodes)
}

// play plays the next entry, if it can follow.
func (x *truth) play(e api.Entry) bool {
	n := len(x.history)
	reply, changes, code := x.machine.Apply(e)
	if code != api.OK || e.Stamp != n+1 || n > 0 && e.View < x.history[n-1].View {
		return false
	}
	x.history, x.replies = append(x.history, e), append(x.replies, reply)
	x.learn(changes)
	return true
}

// truthOf plays a history, if it is one.
func truthOf(history []api.Entry) (*truth, bool) {
	x := newTruth()
	for _, e := range history {
		if !x.play(e) {
			return nil, false
		}
	}
	return x, true
}

// isFor tells whether a watch of that kind, at a place that is one, has to do with a node at another place.
func isFor(kind int, watched, at string) bool {
	dir := strings.TrimSuffix(watched, "/") + "/"
	isBelow := at != "/" && strings.HasPrefix(at, dir)
	switch kind {
	case api.WatchNode:
		return at == watched
	case api.WatchKids:
		return at == watched || isBelow && !strings.Contains(at[len(dir):], "/")
	}
	return at == watched || isBelow
}

// part is the model's part of the tree at a stamp, if there is one.
func (x *truth) part(s api.Shot) ([]api.Seen, bool) {
	if _, code := place.Parse(s.Place); code != api.OK || s.Kind < 1 || s.Kind > 3 || s.Stamp < 0 || s.Stamp >= len(x.trees) {
		return nil, false
	}
	var part []api.Seen
	for _, n := range x.trees[s.Stamp] {
		if !isFor(s.Kind, s.Place, n.Place) {
			continue
		}
		if s.Kind == api.WatchKids {
			n.Data, n.Version = "", 0
		}
		part = append(part, n)
	}
	return part, true
}

func (x *truth) isPart(s api.Shot) bool {
	part, isThere := x.part(s)
	return isThere && same(part, s.Nodes)
}

// eventAt is what an entry has for watches that were granted below its stamp.
func (x *truth) eventAt(stamp int, watches []api.Watch) []api.Tagged {
	var all []api.Tagged
	for _, c := range x.changes[stamp] {
		var ids []int
		for _, w := range watches {
			isTold := w.Kind != api.WatchKids || c.Kind != api.ChangeSet
			if w.From < stamp && isTold && isFor(w.Kind, w.Place, c.Place) {
				ids = append(ids, w.Id)
			}
		}
		if len(ids) > 0 {
			all = append(all, api.Tagged{Change: c, Tags: ids})
		}
	}
	return all
}

// sessionOf has the told things that speak of the same session as another one.
func sessionOf(told []api.Told, as api.Told) []api.Told {
	var all []api.Told
	for _, t := range told {
		if t.Client == as.Client && t.Session == as.Session {
			all = append(all, t)
		}
	}
	return all
}

// watchesBehind are the watches that a session has behind what it was told, by ids, each with the stamp at which it was granted.
func watchesBehind(told []api.Told) []api.Watch {
	var all []api.Watch
	for _, t := range told {
		switch {
		case t.Kind == api.ToldGone:
			all = nil
		case t.Kind == api.ToldUnwatch:
			all = slices.DeleteFunc(all, func(w api.Watch) bool { return w.Id == t.Watch.Id })
		case t.Kind == api.ToldWatched && t.Code == api.OK:
			all = append(all, api.Watch{Id: t.Watch.Id, Place: t.Watch.Place, Kind: t.Watch.Kind, From: t.Part.Shot.Stamp})
		}
	}
	slices.SortFunc(all, func(a, b api.Watch) int { return cmp.Compare(a.Id, b.Id) })
	return all
}

// lastBehind is the stamp of the last item that a session took.
func lastBehind(told []api.Told) int {
	last := 0
	for _, t := range told {
		if t.Kind == api.ToldItem {
			last = t.Item.Stamp
		}
	}
	return last
}

func wasTold(told []api.Told, kind, request int) bool {
	return slices.ContainsFunc(told, func(t api.Told) bool { return t.Kind == kind && t.Request == request })
}

// offenceOfReply is what a call or a reply has behind what its session was told ahead of it.
func (x *truth) offenceOfReply(before []api.Told, t api.Told) api.Errno {
	isFirst := func(e api.Entry) bool {
		return e.Kind == api.EntryRequest && e.Session == t.Session && e.Request == t.Request
	}
	at := slices.IndexFunc(x.history, isFirst)
	isCall := func(b api.Told) bool { return b.Kind == api.ToldCall && b.Request == t.Request }
	isNewer := func(b api.Told) bool { return b.Kind == api.ToldCall && b.Request >= t.Request }
	switch {
	case t.Kind == api.ToldCall && slices.ContainsFunc(before, isNewer):
		return api.ErrTwice
	case t.Kind != api.ToldReply:
		return api.OK
	case !wasTold(before, api.ToldCall, t.Request):
		return api.ErrOrder
	case wasTold(before, api.ToldReply, t.Request):
		return api.ErrTwice
	case at < 0 || !same(t.Reply, x.replies[at]) || t.Stamp != x.replies[at].Stamp:
		return api.ErrReply
	case !same(before[slices.IndexFunc(before, isCall)].Ops, x.history[at].Ops):
		return api.ErrReply
	}
	return api.OK
}

// standsTwice tells whether two entries have one request of a session that was open.
func (x *truth) standsTwice() bool {
	for i, a := range x.history {
		for k, b := range x.history[:i] {
			isSame := a.Kind == api.EntryRequest && b.Kind == api.EntryRequest && a.Session == b.Session && a.Request == b.Request
			if isSame && x.replies[i].Code != api.ErrSession && x.replies[k].Code != api.ErrSession {
				return true
			}
		}
	}
	return false
}

// offenceOfItem is what a granted watch or an item has behind what its session was told ahead of it.
func (x *truth) offenceOfItem(before []api.Told, t api.Told) api.Errno {
	watches, shot := watchesBehind(before), t.Part.Shot
	switch {
	case t.Kind == api.ToldItem && t.Item.Stamp <= lastBehind(before):
		return api.ErrOrder
	case t.Kind == api.ToldItem && t.Item.Stamp > len(x.history):
		return api.ErrHistory
	case t.Kind == api.ToldItem && t.Item.Marker:
		return x.offenceOfMarker(watches, t.Item)
	case t.Kind == api.ToldItem:
		return x.offenceOfEvent(watches, lastBehind(before), t.Item)
	case t.Kind != api.ToldWatched || t.Code != api.OK:
		return api.OK
	case slices.ContainsFunc(watches, func(w api.Watch) bool { return w.Id == t.Watch.Id }):
		return api.ErrOrder
	case shot.Stamp < 0 || shot.Stamp > len(x.history):
		return api.ErrHistory
	case t.Part.Id != t.Watch.Id || shot.Place != t.Watch.Place || shot.Kind != t.Watch.Kind || !x.isPart(shot):
		return api.ErrPicture
	}
	return api.OK
}

func (x *truth) offenceOfEvent(watches []api.Watch, last int, item api.Item) api.Errno {
	if want := x.eventAt(item.Stamp, watches); len(want) == 0 || !same(item.Changes, want) {
		return api.ErrEvent
	}
	for z := last + 1; z < item.Stamp; z++ {
		if len(x.eventAt(z, watches)) > 0 {
			return api.ErrMissed
		}
	}
	return api.OK
}

func (x *truth) offenceOfMarker(watches []api.Watch, item api.Item) api.Errno {
	older := slices.DeleteFunc(watches, func(w api.Watch) bool { return w.From >= item.Stamp })
	isOf := func(w api.Watch, p api.Part) bool { return w.Id == p.Id }
	if len(older) == 0 || !slices.EqualFunc(older, item.Parts, isOf) {
		return api.ErrMarker
	}
	for i, p := range item.Parts {
		if p.Shot.Stamp != item.Stamp || p.Shot.Place != older[i].Place || p.Shot.Kind != older[i].Kind || !x.isPart(p.Shot) {
			return api.ErrPicture
		}
	}
	return api.OK
}

// firstOffence is the first one that such a look finds.
func firstOffence(told []api.Told, look func(before []api.Told, t api.Told) api.Errno) (api.Errno, int) {
	for i, t := range told {
		if code := look(sessionOf(told[:i], t), t); code != api.OK {
			return code, i
		}
	}
	return api.OK, 0
}

// answers are what all calls say.
type answers struct {
	Replies                    []api.Reply
	Model, Reply, Item, Check  api.Errno
	ReplyAt, ItemAt, CheckedAt int
}

func answersOf(history []api.Entry, told []api.Told) answers {
	var a answers
	a.Replies, a.Model = audit.Model(history)
	a.Reply, a.ReplyAt = audit.Replies(history, told)
	a.Item, a.ItemAt = audit.Items(history, told)
	a.Check, a.CheckedAt = audit.Check(history, told)
	return a
}

func answersAgain(history []api.Entry, told []api.Told) answers {
	x, ok := truthOf(history)
	if !ok {
		return answers{Model: api.ErrHistory, Reply: api.ErrHistory, Item: api.ErrHistory, Check: api.ErrHistory}
	}
	return x.answers(told)
}

func (x *truth) answers(told []api.Told) answers {
	a := answers{Replies: x.replies}
	a.Reply, a.ReplyAt = firstOffence(told, x.offenceOfReply)
	if a.Reply == api.OK && x.standsTwice() {
		a.Reply, a.ReplyAt = api.ErrTwice, len(told)
	}
	a.Item, a.ItemAt = firstOffence(told, x.offenceOfItem)
	if a.Check, a.CheckedAt = a.Reply, a.ReplyAt; a.Check == api.OK {
		a.Check, a.CheckedAt = a.Item, a.ItemAt
	}
	return a
}

// holdsAgain holds all calls against the second reckoning.
func holdsAgain(t *testing.T, history []api.Entry, told []api.Told) answers {
	t.Helper()
	got, want := answersOf(history, told), answersAgain(history, told)
	if !same(got, want) {
		t.Errorf("P19.1 to P19.4: told %+v of %+v: %s, want %s", told, history, tell(got), tell(want))
	}
	return want
}

// TestReckoning: the second reckoning itself says of the parts of a tree what the tree does, and of changes what place does.
func TestReckoning(t *testing.T) {
	h := longStory()
	x, _ := truthOf(h)
	places := []string{"/", "/a", "/a/b", "/c", "/c/e", "/a-b", "/ab", "/x/y", "", "a", "/a/", "//"}
	for _, at := range places {
		for kind := -1; kind <= 5; kind++ {
			for stamp := -1; stamp <= len(h)+1; stamp++ {
				m := state.New()
				for _, e := range h[:max(0, min(stamp, len(h)))] {
					m.Apply(e)
				}
				s, code := m.Part(at, kind)
				part, isThere := x.part(api.Shot{Stamp: stamp, Place: at, Kind: kind})
				if isThere != (code == api.OK && stamp >= 0 && stamp <= len(h)) || isThere && !same(part, s.Nodes) {
					t.Errorf("the part %d of %q at %d is %s, and should be %s, %d", kind, at, stamp, tell(part), tell(s), code)
				}
			}
			for _, other := range places {
				_, code := place.Parse(at)
				_, code2 := place.Parse(other)
				if kind < 1 || kind > 3 || code != api.OK || code2 != api.OK {
					continue
				}
				if isFor(kind, at, other) != place.Covers(kind, at, api.ChangeMade, other) {
					t.Errorf("whether a watch %d of %s is for %s is told wrongly", kind, at, other)
				}
			}
		}
	}
}
