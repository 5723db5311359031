package trie

import (
	"cmp"
	"slices"

	"herald/api"
	"herald/place"
)

// held is a watch that the trie has. It is never turned, so that lists may share it.
type held struct {
	session int
	watch   api.Watch
}

func (h *held) tag() api.Tag {
	return api.Tag{Session: h.session, Id: h.watch.Id}
}

// names lead to the watch's node from the root on.
func (h *held) names() []string {
	names, _ := place.Parse(h.watch.Place)
	return names
}

func (h *held) matches(stamp int, c api.Change) bool {
	return h.watch.From < stamp && place.Covers(h.watch.Kind, h.watch.Place, c.Kind, c.Place)
}

// list has watches by sessions, then ids.
type list []*held

// find tells where a watch stands, or would stand, and whether it is there.
func (l list) find(tag api.Tag) (int, bool) {
	return slices.BinarySearchFunc(l, tag, func(h *held, tag api.Tag) int {
		return orderOfTags(h.tag(), tag)
	})
}

// with is the list with one watch more; the list that it was called on is used up.
func (l list) with(h *held) list {
	at, _ := l.find(h.tag())
	return slices.Insert(l, at, h)
}

// without is the list without a watch that is in it; the list that it was called on is used up.
func (l list) without(h *held) list {
	at, _ := l.find(h.tag())
	return slices.Delete(l, at, at+1)
}

func orderOfTags(a, b api.Tag) int {
	return cmp.Or(cmp.Compare(a.Session, b.Session), cmp.Compare(a.Id, b.Id))
}
