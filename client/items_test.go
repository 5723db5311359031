package client_test

import (
	"strings"
	"testing"

	"herald/api"
)

// pictured is a client whose session 2 is resumed and whose watches 1, 2 and so on are granted with these parts. Its connection has the number of watches and 1.
func pictured(t *testing.T, parts ...api.Part) *life {
	t.Helper()
	l := resumedNow(t)
	for i, p := range parts {
		if _, _, code := l.c.Watch(p.Shot.Place, p.Shot.Kind); code != api.OK {
			t.Fatalf("P15.4: Watch says %d", code)
		}
		if a := l.take(1, watched(1, 2, i+1, p)); len(a.told) != 1 {
			t.Fatalf("P15.8: %s is not granted", tell(p))
		}
	}
	l.take(1, resumed(1, 2, len(parts)+1, 0, api.OK))
	return l
}

// upTo has taken all up to a stamp: an event that is for nobody.
func (l *life) upTo(stamp int, ids ...int) *life {
	l.t.Helper()
	l.takes(1, delivers(1, 2, l.conn(), ids, event(stamp, 0, made("/z", "", 99))), 1, took(2, l.conn(), stamp))
	return l
}

// TestNewEvents: P15.9, an event is new, if After <= last < Stamp.
func TestNewEvents(t *testing.T) {
	for last := range 6 {
		for after := range 8 {
			for stamp := range 8 {
				l := pictured(t, part(1, 0, "/a", api.WatchNode))
				if last > 0 {
					l.upTo(last, 1)
				}
				item := event(stamp, after, made("/a", "x", 1))
				if after > last || stamp <= last {
					l.takes(1, delivers(1, 2, 2, []int{1}, item), 1, took(2, 2, last))
					l.shows(2, last, part(1, last, "/a", api.WatchNode))
					continue
				}
				l.takes(1, delivers(1, 2, 2, []int{1}, item), toldItem(2, item), 1, took(2, 2, stamp))
				l.shows(2, stamp, part(1, stamp, "/a", api.WatchNode, seen("/a", "x", 0)))
			}
		}
	}
}

// TestNewMarkers: P15.9, a marker is new, if last < Stamp, whatever its After is.
func TestNewMarkers(t *testing.T) {
	for last := range 5 {
		for _, after := range []int{0, 1, 2, 3, 4, 5, 6, most} {
			for stamp := range 7 {
				l := pictured(t, part(1, 0, "/a", api.WatchNode))
				if last > 0 {
					l.upTo(last, 1)
				}
				next := part(1, stamp, "/a", api.WatchNode, seen("/a", "x", 3))
				item := marker(stamp, after, next)
				if stamp <= last {
					l.takes(1, delivers(1, 2, 2, []int{1}, item), 1, took(2, 2, last))
					l.shows(2, last, part(1, last, "/a", api.WatchNode))
					continue
				}
				l.takes(1, delivers(1, 2, 2, []int{1}, item), toldItem(2, item), 1, took(2, 2, stamp))
				l.shows(2, stamp, next)
			}
		}
	}
}

// TestItemsInOrder: P15.9, the items of a note are looked at one by one: what isn't new is skipped, and what is behind it may be.
func TestItemsInOrder(t *testing.T) {
	l := pictured(t, part(1, 0, "/a", api.WatchNode)).upTo(4, 1)
	first, second, third := event(5, 2, made("/a", "5", 1)), event(8, 5, set("/a", "8", 1, 1)), event(most, 8, dropped("/a", 1))
	l.takes(1, delivers(1, 2, 2, []int{1},
		event(3, 0, made("/a", "3", 1)),
		event(4, 3, made("/a", "4", 1)),
		first,
		event(6, 6, set("/a", "6", 1, 1)),
		event(7, 6, set("/a", "7", 1, 1)),
		second,
		event(9, most, set("/a", "9", 1, 1)),
		third,
	), toldItem(2, first), toldItem(2, second), toldItem(2, third), 1, took(2, 2, most))
	l.shows(2, most, part(1, most, "/a", api.WatchNode))
	l.takes(1, delivers(1, 2, 2, []int{1}, first, second, third), 1, took(2, 2, most))
	l.shows(2, most, part(1, most, "/a", api.WatchNode))
}

// TestMarkerThenEvents: P15.9, behind a marker its note goes on.
func TestMarkerThenEvents(t *testing.T) {
	l := pictured(t, part(1, 2, "/a", api.WatchNode))
	first, second := marker(5, 9, part(1, 5, "/a", api.WatchNode, seen("/a", "5", 2))), event(7, 5, set("/a", "7", 3, 1))
	l.takes(1, delivers(1, 2, 2, []int{1}, first, event(6, 6, dropped("/a", 1)), second), toldItem(2, first), toldItem(2, second), 1, took(2, 2, 7))
	l.shows(2, 7, part(1, 7, "/a", api.WatchNode, seen("/a", "7", 3)))
}

// four is a client with watches of all standings: 1 and 2 are granted, at 5 and at 8, 3 is asked, 4 leaving.
func four(t *testing.T) *life {
	t.Helper()
	l := pictured(t, part(1, 5, "/a", api.WatchSubtree, seen("/a", "", 0)), part(2, 8, "/", api.WatchKids, seen("/", "", 0), seen("/a", "", 0)))
	l.watches("/c", api.WatchNode, toldOf(api.ToldWatch, 2, watch(3, "/c", api.WatchNode, 0)), 1, watches(2, 3, watch(3, "/c", api.WatchNode, 0)))
	l.watches("/d", api.WatchNode, toldOf(api.ToldWatch, 2, watch(4, "/d", api.WatchNode, 0)), 1, watches(2, 3, watch(4, "/d", api.WatchNode, 0)))
	l.unwatches(4, toldOf(api.ToldUnwatch, 2, watch(4, "/d", api.WatchNode, 0)), 1, unwatches(2, 3, 4))
	return l
}

// TestRightTags: P15.9, a tag is right, if it is that of a granted watch whose picture is below the item; changes without a right one are left out, and an item without one isn't told, but taken.
func TestRightTags(t *testing.T) {
	item := func(stamp int) api.Item {
		return event(stamp, 0,
			made("/a/b", "b", 1, 2, 3, 4),
			made("/c", "c", 3, 4, 9),
			made("/d", "d", 2, 4),
			set("/a", "a", 1, 1, most),
		)
	}
	small, rooted := part(1, 5, "/a", api.WatchSubtree, seen("/a", "", 0)), part(2, 8, "/", api.WatchKids, seen("/", "", 0), seen("/a", "", 0))
	for stamp := 1; stamp <= 10; stamp++ {
		l := four(t)
		n := delivers(1, 2, 3, []int{1, 2}, item(stamp))
		folded := part(1, stamp, "/a", api.WatchSubtree, seen("/a", "a", 1), seen("/a/b", "b", 0))
		switch {
		case stamp <= 5:
			l.takes(1, n, 1, took(2, 3, stamp))
			l.shows(2, stamp, small, rooted)
		case stamp <= 8:
			l.takes(1, n, toldItem(2, event(stamp, 0, made("/a/b", "b", 1), set("/a", "a", 1, 1))), 1, took(2, 3, stamp))
			l.shows(2, stamp, folded, rooted)
		default:
			l.takes(1, n, toldItem(2, event(stamp, 0, made("/a/b", "b", 1, 2), made("/d", "d", 2), set("/a", "a", 1, 1))), 1, took(2, 3, stamp))
			l.shows(2, stamp, folded, part(2, stamp, "/", api.WatchKids, seen("/", "", 0), seen("/a", "", 0), seen("/d", "", 0)))
		}
		l.ticks(0, asks(), 1, beats(2, 3), 1, watches(2, 3, watch(3, "/c", api.WatchNode, 0)), 1, unwatches(2, 3, 4))
	}
}

// TestUntaggedPictures: P15.9, a picture goes on to the stamp of an event that is not for it, whatever the event says of its place.
func TestUntaggedPictures(t *testing.T) {
	l := pictured(t, part(1, 1, "/a", api.WatchNode, seen("/a", "x", 0)), part(2, 1, "/a", api.WatchNode, seen("/a", "x", 0)))
	item := event(4, 0, dropped("/a", 2))
	l.takes(1, delivers(1, 2, 3, []int{1, 2}, item), toldItem(2, item), 1, took(2, 3, 4))
	l.shows(2, 4, part(1, 4, "/a", api.WatchNode, seen("/a", "x", 0)), part(2, 4, "/a", api.WatchNode))
}

// TestChangesInOrder: P15.9, the changes of an event are folded in their order.
func TestChangesInOrder(t *testing.T) {
	l := pictured(t, part(1, 1, "/a", api.WatchSubtree))
	item := event(4, 0, made("/a", "1", 1), made("/a/b", "", 1), set("/a", "2", 1, 1), set("/a", "3", 2, 1), dropped("/a/b", 1), made("/a/c", "", 1))
	l.takes(1, delivers(1, 2, 2, []int{1}, item), toldItem(2, item), 1, took(2, 2, 4))
	l.shows(2, 4, part(1, 4, "/a", api.WatchSubtree, seen("/a", "3", 2), seen("/a/c", "", 0)))
}

// TestFoldRefuses: P15.9, then that picture is as it was, its stamp too; the item is told and taken all the same, and other pictures are folded.
func TestFoldRefuses(t *testing.T) {
	kept, other := part(1, 2, "/a", api.WatchSubtree, seen("/a", "x", 0)), part(2, 3, "/b", api.WatchNode)
	for _, wrong := range []api.Tagged{made("/a", "", 1), made("/a/b/c", "", 1), set("/a/b", "", 1, 1), dropped("/a/b", 1)} {
		l := pictured(t, kept, other)
		item := event(7, 0, set("/a", "y", 1, 1), wrong, made("/b", "z", 2))
		l.takes(1, delivers(1, 2, 3, []int{1, 2}, item), toldItem(2, item), 1, took(2, 3, 7))
		l.shows(2, 7, kept, part(2, 7, "/b", api.WatchNode, seen("/b", "z", 0)))
		l.takes(1, delivers(1, 2, 3, []int{1, 2}, item), 1, took(2, 3, 7))
		next := event(9, 7, set("/a", "w", 1, 1))
		l.takes(1, delivers(1, 2, 3, []int{1, 2}, next), toldItem(2, next), 1, took(2, 3, 9))
		l.shows(2, 9, part(1, 9, "/a", api.WatchSubtree, seen("/a", "w", 1)), part(2, 9, "/b", api.WatchNode, seen("/b", "z", 0)))
	}
}

// TestRightParts: P15.9, a part is right, if it is that of a granted watch whose picture is below the marker, and a shot of it at the marker's stamp.
func TestRightParts(t *testing.T) {
	small, rooted := part(1, 5, "/a", api.WatchSubtree, seen("/a", "", 0)), part(2, 8, "/", api.WatchKids, seen("/", "", 0), seen("/a", "", 0))
	for stamp := 1; stamp <= 10; stamp++ {
		next := part(1, stamp, "/a", api.WatchSubtree, seen("/a", "new", 7), seen("/a/b", "", 0))
		root := part(2, stamp, "/", api.WatchKids, seen("/", "", 0), seen("/q", "", 0))
		wrong := []api.Part{
			part(3, stamp, "/c", api.WatchNode),
			part(4, stamp, "/d", api.WatchNode),
			part(9, stamp, "/a", api.WatchSubtree),
			part(1, stamp, "/b", api.WatchSubtree),
			part(1, stamp, "/a", api.WatchKids),
			part(1, stamp-1, "/a", api.WatchSubtree),
			part(1, stamp+1, "/a", api.WatchSubtree),
			part(1, 0, "/a", api.WatchSubtree),
			part(1, stamp, "/a", api.WatchSubtree, seen("/a/b", "", 0)),
			part(2, stamp, "/", api.WatchKids),
			part(2, stamp, "/", api.WatchKids, seen("/", "data", 0)),
			part(2, stamp, "/", api.WatchNode, seen("/", "", 0)),
		}
		for _, w := range wrong {
			for at := range 3 {
				parts := []api.Part{next, root}
				parts = append(parts[:at:at], append([]api.Part{w}, parts[at:]...)...)
				l := four(t)
				n := delivers(1, 2, 3, []int{1, 2}, marker(stamp, 1, parts...))
				switch {
				case stamp <= 5:
					l.takes(1, n, 1, took(2, 3, stamp))
					l.shows(2, stamp, small, rooted)
				case stamp <= 8:
					l.takes(1, n, toldItem(2, marker(stamp, 1, next)), 1, took(2, 3, stamp))
					l.shows(2, stamp, next, rooted)
				default:
					l.takes(1, n, toldItem(2, marker(stamp, 1, next, root)), 1, took(2, 3, stamp))
					l.shows(2, stamp, next, root)
				}
			}
		}
	}
}

// TestPartsInOrder: P15.9, the parts of a marker are looked at one by one: of two with the same Id the first right one is the picture. What a marker doesn't bring is as it was.
func TestPartsInOrder(t *testing.T) {
	l := pictured(t, part(1, 5, "/a", api.WatchNode), part(2, 4, "/b", api.WatchNode))
	first, second := part(1, 9, "/a", api.WatchNode, seen("/a", "1", 1)), part(1, 9, "/a", api.WatchNode, seen("/a", "2", 2))
	l.takes(1, delivers(1, 2, 3, []int{1, 2}, marker(9, 0, part(1, 8, "/a", api.WatchNode), first, second)), toldItem(2, marker(9, 0, first)), 1, took(2, 3, 9))
	l.shows(2, 9, first, part(2, 4, "/b", api.WatchNode))
	item := event(10, 9, made("/b", "", 2))
	l.takes(1, delivers(1, 2, 3, []int{1, 2}, item), toldItem(2, item), 1, took(2, 3, 10))
	l.shows(2, 10, part(1, 10, "/a", api.WatchNode, seen("/a", "1", 1)), part(2, 10, "/b", api.WatchNode, seen("/b", "", 0)))
}

// TestPartsReversed: P15.9, parts may come in any order, and are told in it.
func TestPartsReversed(t *testing.T) {
	l := pictured(t, part(1, 5, "/a", api.WatchNode), part(2, 4, "/b", api.WatchNode))
	item := marker(9, 0, part(2, 9, "/b", api.WatchNode), part(1, 9, "/a", api.WatchNode, seen("/a", "", 0)))
	l.takes(1, delivers(1, 2, 3, []int{1, 2}, item), toldItem(2, item), 1, took(2, 3, 9))
	l.shows(2, 9, item.Parts[1], item.Parts[0])
}

// TestUnknownWatch: P15.9, a new item ends the note, if the note doesn't name a granted watch whose picture is below it.
func TestUnknownWatch(t *testing.T) {
	anew := resumes(2, 4, 0, watch(1, "/a", api.WatchSubtree, 5), watch(2, "/", api.WatchKids, 8))
	for _, ids := range [][]int{nil, {1}, {2}, {1, 2}, {3}, {3, 4}, {1, 3, 4, 9}, {1, 2, 3, 9}} {
		has := func(id int) bool { return strings.Contains(tell(ids), tell(id)) }
		for stamp := 1; stamp <= 10; stamp++ {
			for _, item := range []api.Item{event(stamp, 0, made("/zz", "", 77)), marker(stamp, 0, part(77, stamp, "/zz", api.WatchNode))} {
				l := four(t)
				if stamp > 5 && !has(1) || stamp > 8 && !has(2) {
					l.takes(1, delivers(1, 2, 3, ids, item), 1, anew)
					l.ticks(0, asks(), 1, beats(2, 4), 1, anew)
					l.shows(2, 0, part(1, 5, "/a", api.WatchSubtree, seen("/a", "", 0)), part(2, 8, "/", api.WatchKids, seen("/", "", 0), seen("/a", "", 0)))
					continue
				}
				l.takes(1, delivers(1, 2, 3, ids, item), 1, took(2, 3, stamp))
			}
		}
	}
}

// TestUnknownWatchEnds: P15.9, what stands ahead of such an item is taken and told, it and what stands behind it is dropped; the asks have the request that is pending, too. What isn't new ends nothing.
func TestUnknownWatchEnds(t *testing.T) {
	l := pictured(t, part(1, 1, "/a", api.WatchNode), part(2, 7, "/b", api.WatchNode)).upTo(2, 1)
	l.calls(nil, toldCall(2, 1), 1, calls(2, 1))
	first := event(6, 2, made("/a", "", 1))
	n := delivers(1, 2, 3, []int{1}, event(2, 0, made("/a", "", 1)), event(5, 4, made("/a", "", 1)), first, event(7, 7, made("/a", "", 1)), event(8, 8, made("/b", "", 1)), event(9, 6, made("/b", "", 2)), event(10, 6, set("/a", "z", 1, 1)))
	l.takes(1, n, toldItem(2, first), 1, resumes(2, 4, 6, watch(1, "/a", api.WatchNode, 6), watch(2, "/b", api.WatchNode, 7)), 1, calls(2, 1))
	l.shows(2, 6, part(1, 6, "/a", api.WatchNode, seen("/a", "", 0)), part(2, 7, "/b", api.WatchNode))
	l.takes(1, n)
	l.takes(1, delivers(1, 2, 4, nil, first, event(8, 7, made("/b", "", 2))), 1, took(2, 4, 6))
}

// TestLeavingWatch: P15.5 and P15.9, a watch that is leaving is told nothing more, and a note need not name it.
func TestLeavingWatch(t *testing.T) {
	l := pictured(t, part(1, 1, "/a", api.WatchNode), part(2, 1, "/a", api.WatchNode))
	l.unwatches(1, toldOf(api.ToldUnwatch, 2, watch(1, "/a", api.WatchNode, 0)), 1, unwatches(2, 3, 1))
	l.shows(2, 0, part(2, 1, "/a", api.WatchNode))
	l.takes(1, delivers(1, 2, 3, []int{2}, event(4, 0, made("/a", "", 1, 2))), toldItem(2, event(4, 0, made("/a", "", 2))), 1, took(2, 3, 4))
	l.takes(1, delivers(1, 2, 3, []int{1, 2}, marker(5, 0, part(1, 5, "/a", api.WatchNode))), 1, took(2, 3, 5))
	l.shows(2, 5, part(2, 4, "/a", api.WatchNode, seen("/a", "", 0)))
}
