package audit_test

import (
	"fmt"
	"slices"
	"strings"
	"testing"

	"herald/api"
	"herald/audit"
)

func itemsAre(t *testing.T, history []api.Entry, cases []caseOf) {
	t.Helper()
	holds(t, "P19.3", audit.Items, history, cases)
}

// TestItemExamples: the chapter's table.
func TestItemExamples(t *testing.T) {
	h := shortStory()
	w := granted(h, 1, 1, "/a", api.WatchNode)
	first, second := event(2, made("/a", "x", 1)), event(3, set("/a", "y", 1, 1))
	node := func(data string) api.Part {
		return api.Part{Id: 1, Shot: api.Shot{Stamp: 3, Place: "/a", Kind: api.WatchNode, Nodes: []api.Seen{{Place: "/a", Data: data, Version: 1}}}}
	}
	itemsAre(t, h, []caseOf{
		{"an event", []api.Told{w, first}, api.OK, 0},
		{"the event at 3 alone", []api.Told{w, second}, api.ErrMissed, 1},
		{"a tag too many", []api.Told{w, event(2, made("/a", "x", 1, 2))}, api.ErrEvent, 1},
		{"the event at 2 twice", []api.Told{w, first, first}, api.ErrOrder, 2},
		{"a marker at 3", []api.Told{w, marker(3, node("y"))}, api.OK, 0},
		{"a marker with other data", []api.Told{w, marker(3, node("x"))}, api.ErrPicture, 1},
	})
}

// honest is a true telling of the long story, with every kind of item and watch.
func honest(h []api.Entry) []api.Told {
	return []api.Told{
		granted(h, 1, 0, "/", api.WatchKids),
		granted(h, 3, 1, "/a", api.WatchSubtree),
		event(2, made("/a", "x", 1, 3), made("/c", "", 1)),
		granted(h, 2, 3, "/a/b", api.WatchNode),
		event(3, made("/a/b", "p", 3), set("/a", "y", 1, 3)),
		event(6, set("/a/b", "q", 1, 2, 3)),
		givesUp(1),
		granted(h, 4, 7, "/c", api.WatchKids),
		marker(8, part(h, 2, 8, "/a/b", api.WatchNode), part(h, 3, 8, "/a", api.WatchSubtree), part(h, 4, 8, "/c", api.WatchKids)),
		event(9, gone("/c/e", 0, 4)),
		granted(h, 1, 11, "/", api.WatchNode),
		event(12, gone("/a/b", 1, 2, 3), gone("/a", 1, 3)),
		told(api.ToldGone),
	}
}

// TestHonest: P19.3, what is true is taken, as far as it goes.
func TestHonest(t *testing.T) {
	h := longStory()
	list := honest(h)
	for count := range len(list) + 1 {
		itemsAre(t, h, []caseOf{{"the first " + tell(count), list[:count], api.OK, 0}})
	}
}

// TestGrants: P19.3, watches of every kind at every place, also of what is none, granted at every stamp.
func TestGrants(t *testing.T) {
	h := longStory()
	stamps := append(ends(), 4, 5, 8, 9, len(h)-1, len(h), len(h)+1)
	for _, at := range []string{"/", "/a", "/a/b", "/c", "/c/e", "/ab", "/z/z", "", "a", "/a/", "//", "/a b", strings.Repeat("/a", 7), "/" + strings.Repeat("n", 500)} {
		for _, kind := range []int{-1, 0, 1, 2, 3, 4, most, -1 << 40} {
			for _, stamp := range stamps {
				want := api.OK
				switch _, isPlace := map[string]int{"/": 1, "/a": 1, "/a/b": 1, "/c": 1, "/c/e": 1, "/ab": 1, "/z/z": 1}[at]; {
				case stamp < 0 || stamp > len(h):
					want = api.ErrHistory
				case kind < 1 || kind > 3 || !isPlace:
					want = api.ErrPicture
				}
				w := granted(h, 1, stamp, at, kind)
				itemsAre(t, h, []caseOf{{fmt.Sprintf("a watch %d of %q at %d", kind, at, stamp), []api.Told{w}, want, 0}})
			}
		}
	}
	empty := []caseOf{{"at 0 of no history", []api.Told{granted(nil, 1, 0, "/", api.WatchSubtree)}, api.OK, 0}, {"at 1 of no history", []api.Told{granted(nil, 1, 1, "/", api.WatchSubtree)}, api.ErrHistory, 0}}
	itemsAre(t, nil, empty)
}

// TestGrantsThatDiffer: P19.3, a part that differs from the model's in one field alone; what else a granted watch has does not matter.
func TestGrantsThatDiffer(t *testing.T) {
	h := longStory()
	for _, w := range []api.Told{granted(h, 1, 0, "/", api.WatchKids), granted(h, 1, 6, "/", api.WatchKids), granted(h, 1, 6, "/", api.WatchSubtree), granted(h, 7, 6, "/a/b", api.WatchNode), granted(h, 7, 6, "/b", api.WatchNode), granted(h, 7, 8, "/a", api.WatchSubtree)} {
		itemsAre(t, h, []caseOf{{"a true one", []api.Told{told(api.ToldWatch), w}, api.OK, 0}})
		for _, other := range twisted(w.Part) {
			if other.Shot.Stamp != w.Part.Shot.Stamp { // a part may be that of the next stamp too
				continue
			}
			wrong := w
			wrong.Part = other
			itemsAre(t, h, []caseOf{{"the part " + tell(other) + " in the place of " + tell(w.Part), []api.Told{told(api.ToldWatch), wrong}, api.ErrPicture, 1}})
		}
		for _, watch := range []api.Watch{{Id: w.Watch.Id + 1, Place: w.Watch.Place, Kind: w.Watch.Kind}, {Id: w.Watch.Id, Place: "/other", Kind: w.Watch.Kind}, {Id: w.Watch.Id, Place: w.Watch.Place, Kind: 4 - w.Watch.Kind%4}} {
			if watch.Kind == w.Watch.Kind && watch.Id == w.Watch.Id && watch.Place == w.Watch.Place {
				continue
			}
			wrong := w
			wrong.Watch = watch
			itemsAre(t, h, []caseOf{{"the watch " + tell(watch), []api.Told{wrong}, api.ErrPicture, 0}})
		}
		full := changed(w, func(x *api.Told) {
			x.Step, x.Request, x.Stamp, x.Watch.From = -1, 9, 99, -5
			x.Item, x.Reply, x.Ops = api.Item{Stamp: 99, Marker: true}, api.Reply{Stamp: 9}, []api.Op{{}}
		})
		itemsAre(t, h, []caseOf{{"a full one", []api.Told{full}, api.OK, 0}})
	}
	empty := granted(h, 1, 1, "/a", api.WatchNode)
	empty.Part.Shot.Nodes = []api.Seen{}
	itemsAre(t, h, []caseOf{{"an empty list of nodes", []api.Told{empty}, api.OK, 0}})
	late := granted(h, 1, 2, "/a", api.WatchNode)
	late.Part.Shot.Stamp = 3
	early := granted(h, 1, 3, "/a", api.WatchNode)
	early.Part.Shot.Stamp = 2
	itemsAre(t, h, []caseOf{{"the part of an earlier stamp", []api.Told{late}, api.ErrPicture, 0}, {"the part of a later stamp", []api.Told{early}, api.ErrPicture, 0}})
}

// TestHeldIds: P19.3, an id that is held already, was given up, went with its session, was refused, or is held in another session.
func TestHeldIds(t *testing.T) {
	h := longStory()
	w, again := granted(h, 1, 1, "/a", api.WatchNode), granted(h, 1, 2, "/", api.WatchKids)
	refused := changed(again, func(x *api.Told) { x.Code = api.ErrFull })
	gone := told(api.ToldGone)
	itemsAre(t, h, []caseOf{
		{"held", []api.Told{w, again}, api.ErrOrder, 1},
		{"held, the same", []api.Told{w, w}, api.ErrOrder, 1},
		{"held as one of two", []api.Told{granted(h, 2, 1, "/a", api.WatchNode), w, again}, api.ErrOrder, 2},
		{"given up", []api.Told{w, givesUp(1), again}, api.OK, 0},
		{"another one given up", []api.Told{w, givesUp(2), again}, api.ErrOrder, 2},
		{"given up, and held again", []api.Told{w, givesUp(1), again, w}, api.ErrOrder, 3},
		{"given up ahead", []api.Told{givesUp(1), w, again}, api.ErrOrder, 2},
		{"gone", []api.Told{w, gone, again}, api.OK, 0},
		{"another session gone", []api.Told{w, of(1, 32, gone), again}, api.ErrOrder, 2},
		{"another client's session gone", []api.Told{w, of(2, 16, gone), again}, api.ErrOrder, 2},
		{"given up by another client", []api.Told{w, of(2, 16, givesUp(1)), again}, api.ErrOrder, 2},
		{"given up in another session", []api.Told{w, of(1, 32, givesUp(1)), again}, api.ErrOrder, 2},
		{"refused", []api.Told{refused, again}, api.OK, 0},
		{"refused while it is held", []api.Told{w, refused, event(2, made("/a", "x", 1))}, api.OK, 0},
		{"ended, which forgets nothing", []api.Told{w, told(api.ToldEnd), told(api.ToldBegin), told(api.ToldBegun), again}, api.ErrOrder, 4},
		{"held by another client", []api.Told{w, of(2, 16, again)}, api.OK, 0},
		{"held in another session", []api.Told{w, of(1, 32, again)}, api.OK, 0},
		{"held by the client of that number", []api.Told{w, of(16, 1, again)}, api.OK, 0},
		{"held by both", []api.Told{w, of(2, 16, w), of(2, 16, again)}, api.ErrOrder, 2},
		{"ids that are no numbers", []api.Told{granted(h, 0, 1, "/a", api.WatchNode), granted(h, -1, 1, "/a", api.WatchNode), granted(h, 1<<40, 1, "/a", api.WatchNode), event(2, made("/a", "x", -1, 0, 1<<40))}, api.OK, 0},
		{"more than MaxWatches", []api.Told{granted(h, 5, 1, "/a", api.WatchNode), granted(h, 4, 1, "/a", api.WatchNode), granted(h, 3, 1, "/a", api.WatchNode), granted(h, 2, 1, "/a", api.WatchNode), granted(h, 1, 1, "/a", api.WatchNode), event(2, made("/a", "x", 1, 2, 3, 4, 5))}, api.OK, 0},
	})
}

// TestRefusedWatches: P19.3, nothing of a refused watch is looked at.
func TestRefusedWatches(t *testing.T) {
	h := longStory()
	for _, code := range append(ends(), int(api.ErrFull), int(api.ErrPlace)) {
		if code == 0 {
			continue
		}
		refused := changed(granted(h, 1, 99, "??", 9), func(x *api.Told) { x.Code = api.Errno(code) })
		itemsAre(t, h, []caseOf{
			{"refused", []api.Told{refused, refused}, api.OK, 0},
			{"an event of it", []api.Told{changed(granted(h, 1, 1, "/a", api.WatchNode), func(x *api.Told) { x.Code = api.Errno(code) }), event(2, made("/a", "x", 1))}, api.ErrEvent, 1},
		})
	}
}

// TestItemStamps: P19.3, items at, below and above the last taken and the history.
func TestItemStamps(t *testing.T) {
	h := longStory()
	w := granted(h, 1, 1, "/a", api.WatchSubtree)
	first := event(2, made("/a", "x", 1))
	for _, n := range append(ends(), len(h)+1, len(h)+2) {
		for _, isMarker := range []bool{false, true} {
			item := changed(event(n), func(x *api.Told) { x.Item.Marker = isMarker })
			if n <= 2 {
				itemsAre(t, h, []caseOf{{"an item at " + tell(n) + " behind 2", []api.Told{w, first, item}, api.ErrOrder, 2}})
			}
			if n <= 0 {
				itemsAre(t, h, []caseOf{{"the first item at " + tell(n), []api.Told{w, item}, api.ErrOrder, 1}, {"an item at " + tell(n) + " without watches", []api.Told{item}, api.ErrOrder, 0}})
			}
			if n > len(h) {
				itemsAre(t, h, []caseOf{{"an item at " + tell(n), []api.Told{w, item}, api.ErrHistory, 1}, {"an item at " + tell(n) + " behind 2", []api.Told{w, first, item}, api.ErrHistory, 2}})
			}
		}
	}
	third := event(3, made("/a/b", "p", 1), set("/a", "y", 1, 1))
	itemsAre(t, h, []caseOf{
		{"rising", []api.Told{w, first, third}, api.OK, 0},
		{"falling", []api.Told{w, first, third, first}, api.ErrOrder, 3},
		{"twice", []api.Told{w, first, third, third}, api.ErrOrder, 3},
		{"a marker at the last taken", []api.Told{w, first, marker(2, part(h, 1, 2, "/a", api.WatchSubtree))}, api.ErrOrder, 2},
		{"an event at the marker", []api.Told{w, marker(2, part(h, 1, 2, "/a", api.WatchSubtree)), first}, api.ErrOrder, 2},
		{"the last outlasts its session", []api.Told{w, first, told(api.ToldGone), w, first}, api.ErrOrder, 4},
		{"the last outlasts its watch", []api.Told{w, first, givesUp(1), w, first}, api.ErrOrder, 4},
		{"of another client", []api.Told{w, first, of(2, 16, w), of(2, 16, first)}, api.OK, 0},
		{"of another session", []api.Told{w, first, of(1, 32, w), of(1, 32, first)}, api.OK, 0},
		{"at the history's end", []api.Told{granted(h, 1, 11, "/a", api.WatchNode), event(12, gone("/a", 1, 1))}, api.OK, 0},
	})
	itemsAre(t, h[:2], []caseOf{{"at the end", []api.Told{w, first}, api.OK, 0}, {"behind the end", []api.Told{w, first, third}, api.ErrHistory, 2}})
}

// eventWatches are three watches of which two match some changes of one entry.
func eventWatches(h []api.Entry) []api.Told {
	return []api.Told{granted(h, 4, 2, "/a", api.WatchKids), granted(h, 2, 1, "/a/b", api.WatchNode), granted(h, 9, 2, "/c", api.WatchSubtree)}
}

// TestEvents: P19.3, an event has just the changes of its entry that match, in their order, each with all ids, rising.
func TestEvents(t *testing.T) {
	h := longStory()
	behind := func(list ...api.Told) []api.Told { return append(eventWatches(h), list...) }
	b3, c5, b6 := event(3, made("/a/b", "p", 2, 4)), event(5, made("/c/e", "brief", 9), set("/c", "1", 1, 9)), event(6, set("/a/b", "q", 1, 2))
	third := []api.Tagged{gone("/a/b", 1, 2, 4), made("/a/b", "r", 2, 4), set("/a/b", "s", 1, 2)}
	itemsAre(t, h, []caseOf{
		{"true ones", behind(b3, c5, b6, event(8, third...)), api.OK, 0},
		{"no change", behind(event(3)), api.ErrEvent, 3},
		{"no change where none matches", behind(b3, event(4)), api.ErrEvent, 4},
		{"a change where none matches", behind(b3, event(4, made("/a/b", "p", 2, 4))), api.ErrEvent, 4},
		{"no change of an entry that changes nothing", behind(b3, c5, b6, event(7)), api.ErrEvent, 6},
		{"no change of a refused one", behind(b3, c5, b6, event(8, third...), event(9, gone("/c/e", 0, 9)), event(10)), api.ErrEvent, 8},
		{"a change that matches no watch", behind(event(3, made("/a/b", "p", 2, 4), set("/a", "y", 1))), api.ErrEvent, 3},
		{"a change that matches none, with a tag", behind(event(3, made("/a/b", "p", 2, 4), set("/a", "y", 1, 4))), api.ErrEvent, 3},
		{"without any watch", []api.Told{event(3, made("/a/b", "p", 2, 4))}, api.ErrEvent, 0},
		{"without any watch, and no change", []api.Told{event(3)}, api.ErrEvent, 0},
	})
	for _, c := range []struct {
		ahead []api.Told
		stamp int
		list  []api.Tagged
	}{{nil, 3, b3.Item.Changes}, {[]api.Told{b3}, 5, c5.Item.Changes}, {[]api.Told{b3, c5, b6}, 8, third}} {
		for _, wrong := range twisted(c.list) {
			list := behind(append(slices.Clone(c.ahead), event(c.stamp, wrong...))...)
			itemsAre(t, h, []caseOf{{"the changes " + tell(wrong) + " in the place of " + tell(c.list), list, api.ErrEvent, len(list) - 1}})
		}
	}
	full := changed(b3, func(x *api.Told) {
		x.Step, x.Request, x.Stamp, x.Code, x.Watch, x.Part = -1, 9, 99, api.ErrFull, api.Watch{Id: 2}, api.Part{Id: 3}
		x.Item.After, x.Item.Parts = 99, []api.Part{{Id: 7, Shot: api.Shot{Stamp: 3}}}
	})
	itemsAre(t, h, []caseOf{{"what else it has", behind(full, c5), api.OK, 0}})
}

// TestEventsAndGrants: P19.3, tags of watches that were granted at lower and at higher stamps.
func TestEventsAndGrants(t *testing.T) {
	h := longStory()
	at := func(id, stamp int) api.Told { return granted(h, id, stamp, "/a", api.WatchSubtree) }
	first, third := made("/a", "x", 1), []api.Tagged{made("/a/b", "p", 1, 2), set("/a", "y", 1, 1, 2)}
	itemsAre(t, h, []caseOf{
		{"one granted below the stamp, one at it", []api.Told{at(1, 1), at(2, 2), event(2, first)}, api.OK, 0},
		{"with the one at it", []api.Told{at(1, 1), at(2, 2), event(2, made("/a", "x", 1, 2))}, api.ErrEvent, 2},
		{"one granted above it", []api.Told{at(1, 1), at(2, 7), event(2, first)}, api.OK, 0},
		{"one granted above it, and then further", []api.Told{at(1, 1), at(2, 2), event(2, first), event(3, third...)}, api.OK, 0},
		{"granted in another order", []api.Told{at(2, 2), at(1, 1), event(2, first), event(3, third...)}, api.OK, 0},
		{"granted above the next one too", []api.Told{at(1, 1), at(2, 3), event(2, first), event(3, made("/a/b", "p", 1), set("/a", "y", 1, 1))}, api.OK, 0},
		{"granted above the next one too, with its tags", []api.Told{at(1, 1), at(2, 3), event(2, first), event(3, third...)}, api.ErrEvent, 3},
		{"one granted at it alone", []api.Told{at(1, 2), event(2, first)}, api.ErrEvent, 1},
		{"one granted at 0", []api.Told{at(1, 0), event(2, first)}, api.OK, 0},
		{"one granted late, below the last taken", []api.Told{at(1, 1), event(2, first), at(2, 1), event(3, third...)}, api.OK, 0},
		{"one granted behind it", []api.Told{event(2, first), at(1, 1)}, api.ErrEvent, 0},
		{"one given up", []api.Told{at(1, 1), at(2, 1), givesUp(2), event(2, first)}, api.OK, 0},
		{"one given up, with its tag", []api.Told{at(1, 1), at(2, 1), givesUp(2), event(2, made("/a", "x", 1, 2))}, api.ErrEvent, 3},
		{"all gone", []api.Told{at(1, 1), told(api.ToldGone), event(2, first)}, api.ErrEvent, 2},
		{"another client's watch", []api.Told{of(2, 16, at(1, 1)), event(2, first)}, api.ErrEvent, 1},
		{"another session's watch", []api.Told{of(1, 32, at(1, 1)), event(2, first)}, api.ErrEvent, 1},
	})
}

// TestMissed: P19.3, entries between the last taken and an event that match or do not.
func TestMissed(t *testing.T) {
	h := longStory()
	whole, below := granted(h, 1, 1, "/a", api.WatchSubtree), granted(h, 2, 1, "/c", api.WatchSubtree)
	first, b6 := event(2, made("/a", "x", 1)), event(6, set("/a/b", "q", 1, 1))
	c2, c5 := event(2, made("/c", "", 2)), event(5, made("/c/e", "brief", 2), set("/c", "1", 1, 2))
	both := event(2, made("/a", "x", 1), made("/c", "", 2))
	itemsAre(t, h, []caseOf{
		{"one left out ahead of all", []api.Told{whole, b6}, api.ErrMissed, 1},
		{"one left out between", []api.Told{whole, first, b6}, api.ErrMissed, 2},
		{"what lies between does not match", []api.Told{below, c2, c5}, api.OK, 0},
		{"what lies between and behind does not match", []api.Told{below, c2, c5, event(9, gone("/c/e", 0, 2))}, api.OK, 0},
		{"one left out of the other watch", []api.Told{whole, below, both, event(3, made("/a/b", "p", 1), set("/a", "y", 1, 1)), b6}, api.ErrMissed, 4},
		{"one of the other watch that was given up", []api.Told{whole, below, both, event(3, made("/a/b", "p", 1), set("/a", "y", 1, 1)), givesUp(2), b6}, api.OK, 0},
		{"one left out, granted at its stamp", []api.Told{granted(h, 1, 3, "/a", api.WatchSubtree), b6}, api.OK, 0},
		{"one left out, granted below its stamp", []api.Told{granted(h, 1, 2, "/a", api.WatchSubtree), b6}, api.ErrMissed, 1},
		{"one left out, granted below and above it", []api.Told{whole, granted(h, 2, 3, "/a", api.WatchSubtree), first, event(6, set("/a/b", "q", 1, 1, 2))}, api.ErrMissed, 3},
		{"a marker misses nothing", []api.Told{whole, marker(6, part(h, 1, 6, "/a", api.WatchSubtree))}, api.OK, 0},
		{"what a marker stands for is not missed", []api.Told{whole, marker(5, part(h, 1, 5, "/a", api.WatchSubtree)), b6}, api.OK, 0},
		{"one left out behind a marker", []api.Told{whole, marker(2, part(h, 1, 2, "/a", api.WatchSubtree)), b6}, api.ErrMissed, 2},
		{"one at the last taken is not between", []api.Told{whole, first, granted(h, 2, 1, "/c", api.WatchSubtree), event(3, made("/a/b", "p", 1), set("/a", "y", 1, 1))}, api.OK, 0},
		{"the last of all left out", []api.Told{whole, first}, api.OK, 0},
	})
}

// TestPicturesThatCannotBeFolded: P19.3, a watch that was granted late, below what was taken: its picture missed something, and this is no offence.
func TestPicturesThatCannotBeFolded(t *testing.T) {
	h := longStory()
	itemsAre(t, h, []caseOf{
		{"a node that is set and was never made", []api.Told{granted(h, 1, 1, "/c", api.WatchNode), event(2, made("/c", "", 1)), event(5, set("/c", "1", 1, 1)), granted(h, 2, 1, "/a/b", api.WatchNode), event(6, set("/a/b", "q", 1, 2)), event(8, gone("/a/b", 1, 2), made("/a/b", "r", 2), set("/a/b", "s", 1, 2))}, api.OK, 0},
		{"a node that is gone and was never made", []api.Told{granted(h, 1, 7, "/a", api.WatchKids), event(8, gone("/a/b", 1, 1), made("/a/b", "r", 1)), granted(h, 2, 4, "/c", api.WatchKids), event(9, gone("/c/e", 0, 2)), event(12, gone("/a/b", 1, 1), gone("/a", 1, 1))}, api.OK, 0},
		{"the next one is missed all the same", []api.Told{granted(h, 1, 4, "/c", api.WatchNode), event(5, set("/c", "1", 1, 1)), granted(h, 2, 1, "/a/b", api.WatchNode), event(6, set("/a/b", "q", 1, 2)), event(12, gone("/a/b", 1, 2))}, api.ErrMissed, 4},
	})
}

// TestMarkers: P19.3, a marker has the parts of just the watches whose pictures are older, as the model has them at its stamp.
func TestMarkers(t *testing.T) {
	h := longStory()
	watches := []api.Told{granted(h, 5, 1, "/", api.WatchKids), granted(h, 2, 3, "/a", api.WatchSubtree), granted(h, 3, 8, "/c", api.WatchNode)}
	behind := func(list ...api.Told) []api.Told { return append(slices.Clone(watches), list...) }
	at := func(stamp int, ids ...int) api.Told {
		var parts []api.Part
		for _, id := range ids {
			w := watches[slices.IndexFunc(watches, func(w api.Told) bool { return w.Watch.Id == id })].Watch
			parts = append(parts, part(h, id, stamp, w.Place, w.Kind))
		}
		return marker(stamp, parts...)
	}
	itemsAre(t, h, []caseOf{
		{"of the older watches", behind(at(8, 2, 5)), api.OK, 0},
		{"of all", behind(at(9, 2, 3, 5)), api.OK, 0},
		{"of all at the history's end", behind(at(13, 2, 3, 5)), api.OK, 0},
		{"of the one that is older", behind(at(3, 5)), api.OK, 0},
		{"with a watch that was granted at its stamp", behind(at(8, 2, 3, 5)), api.ErrMarker, 3},
		{"with a watch that was granted above it", behind(at(7, 2, 3, 5)), api.ErrMarker, 3},
		{"without an older one", behind(at(8, 5)), api.ErrMarker, 3},
		{"without the last older one", behind(at(8, 2)), api.ErrMarker, 3},
		{"in another order", behind(at(8, 5, 2)), api.ErrMarker, 3},
		{"with a part twice", behind(at(8, 2, 2, 5)), api.ErrMarker, 3},
		{"with no part", behind(marker(8)), api.ErrMarker, 3},
		{"with no part where no watch is older", behind(marker(1)), api.ErrMarker, 3},
		{"with a part where no watch is older", behind(at(1, 5)), api.ErrMarker, 3},
		{"with no part where no watch is", []api.Told{marker(1)}, api.ErrMarker, 0},
		{"with a part where no watch is", []api.Told{at(2, 5)}, api.ErrMarker, 0},
		{"one behind the other", behind(at(3, 5), at(4, 2, 5), at(9, 2, 3, 5)), api.OK, 0},
		{"of a watch that was given up", behind(givesUp(2), at(8, 2, 5)), api.ErrMarker, 4},
		{"without a watch that was given up", behind(givesUp(2), at(8, 5)), api.OK, 0},
		{"of what is gone", behind(told(api.ToldGone), at(8, 2, 5)), api.ErrMarker, 4},
		{"nothing changed since", behind(at(9, 2, 3, 5), at(10, 2, 3, 5)), api.OK, 0},
		{"of another client's watches", []api.Told{watches[0], of(2, 16, at(8, 5))}, api.ErrMarker, 1},
		{"of another session's watches", []api.Told{watches[0], of(1, 32, at(8, 5))}, api.ErrMarker, 1},
	})
	for _, whole := range []api.Told{at(8, 2, 5), at(12, 2, 3, 5)} {
		for i, p := range whole.Item.Parts {
			for _, shot := range twisted(p.Shot) {
				wrong := changed(whole, func(x *api.Told) { x.Item.Parts[i].Shot = shot })
				itemsAre(t, h, []caseOf{{"the shot " + tell(shot) + " in the place of " + tell(p.Shot), behind(wrong), api.ErrPicture, 3}})
			}
		}
	}
	other := changed(at(9, 2, 3, 5), func(x *api.Told) { x.Item.Parts[1].Shot = shotAt(h, 9, "/", api.WatchNode) })
	kind := changed(at(9, 2, 3, 5), func(x *api.Told) { x.Item.Parts[0].Shot = shotAt(h, 9, "/a", api.WatchKids) })
	earlier := changed(at(9, 2, 3, 5), func(x *api.Told) { x.Item.Parts[0].Shot = shotAt(h, 8, "/a", api.WatchSubtree) })
	full := changed(at(9, 2, 3, 5), func(x *api.Told) {
		x.Step, x.Request, x.Stamp, x.Code, x.Watch, x.Part = -1, 9, 99, api.ErrFull, api.Watch{Id: 2}, api.Part{Id: 3}
		x.Item.After, x.Item.Changes = 99, []api.Tagged{{Tags: []int{1}}}
	})
	itemsAre(t, h, []caseOf{
		{"a true part of another place", behind(other), api.ErrPicture, 3},
		{"a true part of another kind", behind(kind), api.ErrPicture, 3},
		{"a true part of another stamp", behind(earlier), api.ErrPicture, 3},
		{"what else it has", behind(full), api.OK, 0},
	})
}

// TestMarkersAndEvents: P19.3, behind a marker its watches are as old as it, all others as they were.
func TestMarkersAndEvents(t *testing.T) {
	h := longStory()
	a, c := granted(h, 1, 1, "/a", api.WatchSubtree), granted(h, 2, 7, "/a/b", api.WatchNode)
	m := marker(5, part(h, 1, 5, "/a", api.WatchSubtree))
	both := event(8, gone("/a/b", 1, 1, 2), made("/a/b", "r", 1, 2), set("/a/b", "s", 1, 1, 2))
	itemsAre(t, h, []caseOf{
		{"an event of the marked one, then one of both", []api.Told{a, c, m, event(6, set("/a/b", "q", 1, 1)), both}, api.OK, 0},
		{"the event of the marked one with the other's tag", []api.Told{a, c, m, event(6, set("/a/b", "q", 1, 1, 2))}, api.ErrEvent, 3},
		{"the event of the marked one is missed", []api.Told{a, c, m, both}, api.ErrMissed, 3},
		{"a second marker with both", []api.Told{a, c, m, marker(8, part(h, 1, 8, "/a", api.WatchSubtree), part(h, 2, 8, "/a/b", api.WatchNode))}, api.OK, 0},
		{"a second marker ahead of the other", []api.Told{a, c, m, marker(7, part(h, 1, 7, "/a", api.WatchSubtree)), both}, api.OK, 0},
	})
}

// TestWhichItemOffence: P19.3, two offences at one told thing: which one is told; and of two told things the first.
func TestWhichItemOffence(t *testing.T) {
	h := longStory()
	w := granted(h, 1, 1, "/a", api.WatchSubtree)
	first := event(2, made("/a", "x", 1))
	itemsAre(t, h, []caseOf{
		{"a watch that is held, above the history, and wrong", []api.Told{w, granted(h, 1, 99, "??", 9)}, api.ErrOrder, 1},
		{"a watch that is held, and wrong", []api.Told{w, granted(h, 1, 1, "??", 9)}, api.ErrOrder, 1},
		{"a watch above the history, and wrong", []api.Told{w, changed(granted(h, 2, 99, "??", 9), func(x *api.Told) { x.Part.Id = 7 })}, api.ErrHistory, 1},
		{"a watch below 0, and wrong", []api.Told{changed(granted(h, 2, -1, "??", 9), func(x *api.Told) { x.Part.Id = 7 })}, api.ErrHistory, 0},
		{"an event that is old and above the history", []api.Told{w, first, event(2, made("/zz", "x", 1))}, api.ErrOrder, 2},
		{"an event above the history with nothing", []api.Told{w, event(99)}, api.ErrHistory, 1},
		{"an event that is wrong and missed something", []api.Told{w, event(6, set("/a/b", "other", 1, 1))}, api.ErrEvent, 1},
		{"an event without changes that missed something", []api.Told{w, event(7)}, api.ErrEvent, 1},
		{"a marker that is old, with nothing", []api.Told{w, first, marker(2)}, api.ErrOrder, 2},
		{"a marker above the history with nothing", []api.Told{w, marker(99)}, api.ErrHistory, 1},
		{"a marker with a part too many and a wrong one", []api.Told{w, marker(6, part(h, 1, 5, "/", 1), part(h, 2, 5, "/", 1))}, api.ErrMarker, 1},
		{"a marker with a wrong part and a part too many", []api.Told{w, marker(6, part(h, 1, 5, "??", 1), part(h, 2, 6, "/", 1))}, api.ErrMarker, 1},
		{"the first of several", []api.Told{w, first, event(99), marker(1), w}, api.ErrHistory, 2},
		{"the last of several", []api.Told{w, first, event(3, made("/a/b", "p", 1), set("/a", "y", 1, 1)), w}, api.ErrOrder, 3},
	})
}

// TestOtherTold: P19.3, all other kinds of told things do nothing; what is not held may be given up.
func TestOtherTold(t *testing.T) {
	h := longStory()
	w, first := granted(h, 1, 1, "/a", api.WatchSubtree), event(2, made("/a", "x", 1))
	third := event(3, made("/a/b", "p", 1), set("/a", "y", 1, 1))
	for _, kind := range append(ends(), 1, 2, 3, 5, 6, 7, 8, 11, 12) {
		switch kind {
		case api.ToldWatched, api.ToldItem, api.ToldUnwatch, api.ToldGone:
			continue
		}
		for _, as := range []api.Told{w, first, event(99), granted(h, 2, 99, "??", 9), called(h, 2), givesUp(1)} {
			other := as
			other.Kind = kind
			itemsAre(t, h, []caseOf{
				{"the kind " + tell(kind), []api.Told{other, w, other, first, other, third, other}, api.OK, 0},
				{"the kind " + tell(kind) + " ahead of what offends", []api.Told{w, other, first, other, first}, api.ErrOrder, 4},
			})
		}
	}
	itemsAre(t, h, []caseOf{
		{"given up without being held", []api.Told{givesUp(1), w, givesUp(2), givesUp(-1), givesUp(0), first, third}, api.OK, 0},
		{"given up twice", []api.Told{w, givesUp(1), givesUp(1), w, first}, api.OK, 0},
		{"gone without having been", []api.Told{told(api.ToldGone), w, first, told(api.ToldGone), told(api.ToldGone)}, api.OK, 0},
		{"given up with a code and a part", []api.Told{w, changed(givesUp(1), func(x *api.Told) { x.Code, x.Part.Id, x.Item.Stamp, x.Watch.Place, x.Watch.Kind = 9, 4, 99, "?", 9 }), event(2)}, api.ErrEvent, 2},
		{"gone with a code and a watch", []api.Told{w, granted(h, 2, 1, "/c", api.WatchNode), changed(told(api.ToldGone), func(x *api.Told) { x.Code, x.Watch.Id = 9, 1 }), event(2, made("/c", "", 2))}, api.ErrEvent, 3},
	})
}

// TestCheck: P19.4, Replies comes ahead of Items, whichever place is the first.
func TestCheck(t *testing.T) {
	h := longStory()
	w, first := granted(h, 1, 1, "/a", api.WatchSubtree), event(2, made("/a", "x", 1))
	call, reply := called(h, 2), heard(h, 2)
	holds(t, "P19.4", audit.Check, h, []caseOf{
		{"nothing", nil, api.OK, 0},
		{"both true", []api.Told{w, call, first, reply}, api.OK, 0},
		{"an item that offends", []api.Told{call, w, first, reply, first}, api.ErrOrder, 4},
		{"an item that offends at first", []api.Told{first, call, w, reply}, api.ErrEvent, 0},
		{"a reply that offends", []api.Told{w, reply, first}, api.ErrOrder, 1},
		{"a reply that offends behind an item that does", []api.Told{w, first, first, call, reply, reply}, api.ErrTwice, 5},
		{"an item that offends behind a reply that does", []api.Told{call, call, w, w}, api.ErrTwice, 1},
	})
	twice := story(opens(16), asks(16, 1, makes("/a", "x")), asks(16, 1, makes("/a", "x")))
	holds(t, "P19.4", audit.Check, twice, []caseOf{
		{"a request twice, behind an item that offends", []api.Told{event(2, made("/a", "x", 1)), told(api.ToldBegun)}, api.ErrTwice, 2},
	})
}
