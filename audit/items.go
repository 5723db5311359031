package audit

import (
	"slices"

	"herald/api"
)

// itemAudit holds the told items and granted watches against what the model's entries changed, and its tree.
type itemAudit struct {
	changes [][]api.Change // by the entries' stamps; at 0, ahead of all entries, nothing is changed
	parts   parts
	holders map[owner]*holder
}

func newItemAudit(history []api.Entry, told []api.Told) *itemAudit {
	a := &itemAudit{changes: [][]api.Change{nil}, parts: parts{}, holders: map[owner]*holder{}}
	wanted, p := scenesOf(told), newPlayer()
	a.parts.take(p.machine, wanted[0])
	for _, e := range history {
		_, changes := p.play(e)
		a.changes = append(a.changes, changes)
		a.parts.take(p.machine, wanted[e.Stamp])
	}
	return a
}

// itemLooks are the looks at told things, by their kinds; all others are not looked at.
func itemLooks() map[int]func(*itemAudit, api.Told) {
	return map[int]func(*itemAudit, api.Told){
		api.ToldWatched: (*itemAudit).lookAtWatched,
		api.ToldItem:    (*itemAudit).lookAtItem,
		api.ToldUnwatch: (*itemAudit).lookAtUnwatch,
		api.ToldGone:    (*itemAudit).lookAtGone,
	}
}

func (a *itemAudit) lookAtWatched(t api.Told) {
	if t.Code != api.OK {
		return
	}
	h, shot := a.holderOf(t), t.Part.Shot
	_, isHeld := h.pictures[t.Watch.Id]
	must(!isHeld, api.ErrOrder)
	must(0 <= shot.Stamp && shot.Stamp <= a.last(), api.ErrHistory)
	must(t.Part.Id == t.Watch.Id && shot.Place == t.Watch.Place && shot.Kind == t.Watch.Kind, api.ErrPicture)
	must(a.parts.has(shot), api.ErrPicture)
	h.pictures[t.Watch.Id] = shot
}

func (a *itemAudit) lookAtItem(t api.Told) {
	h := a.holderOf(t)
	must(t.Item.Stamp > h.last, api.ErrOrder)
	must(t.Item.Stamp <= a.last(), api.ErrHistory)
	if t.Item.Marker {
		a.lookAtMarker(h, t.Item)
	} else {
		a.lookAtEvent(h, t.Item)
	}
	h.last = t.Item.Stamp
}

func (a *itemAudit) lookAtUnwatch(t api.Told) { delete(a.holderOf(t).pictures, t.Watch.Id) }

func (a *itemAudit) lookAtGone(t api.Told) { clear(a.holderOf(t).pictures) }

func (a *itemAudit) lookAtEvent(h *holder, event api.Item) {
	want := h.matched(event.Stamp, a.changes[event.Stamp])
	must(len(want) > 0 && slices.EqualFunc(event.Changes, want, isSameTagged), api.ErrEvent)
	for stamp := h.last + 1; stamp < event.Stamp; stamp++ {
		must(len(h.matched(stamp, a.changes[stamp])) == 0, api.ErrMissed)
	}
	h.fold(event)
}

func (a *itemAudit) lookAtMarker(h *holder, marker api.Item) {
	var ids []int
	for _, p := range marker.Parts {
		ids = append(ids, p.Id)
	}
	want := h.older(marker.Stamp)
	must(len(want) > 0 && slices.Equal(ids, want), api.ErrMarker)
	for _, p := range marker.Parts {
		picture := h.pictures[p.Id]
		must(p.Shot.Stamp == marker.Stamp && p.Shot.Place == picture.Place && p.Shot.Kind == picture.Kind, api.ErrPicture)
		must(a.parts.has(p.Shot), api.ErrPicture)
		h.pictures[p.Id] = p.Shot
	}
}

// last is the stamp of the history's last entry.
func (a *itemAudit) last() int { return len(a.changes) - 1 }

func (a *itemAudit) holderOf(t api.Told) *holder {
	h := a.holders[ownerOf(t)]
	if h == nil {
		h = &holder{pictures: map[int]api.Shot{}}
		a.holders[ownerOf(t)] = h
	}
	return h
}

func isSameTagged(a, b api.Tagged) bool {
	return a.Change == b.Change && slices.Equal(a.Tags, b.Tags)
}
