package audit

import (
	"slices"

	"herald/api"
	"herald/place"
	"herald/shot"
)

// holder is what a client holds in one of its sessions, by what it was told so far.
type holder struct {
	last     int              // the stamp of the item that it took last
	pictures map[int]api.Shot // of the watches that were granted, by their ids
}

// matched are those changes of an entry that watches match whose pictures are older, each with the ids of these.
func (h *holder) matched(stamp int, changes []api.Change) []api.Tagged {
	var all []api.Tagged
	for _, c := range changes {
		isFor := func(p api.Shot) bool { return p.Stamp < stamp && place.Covers(p.Kind, p.Place, c.Kind, c.Place) }
		if ids := h.which(isFor); len(ids) > 0 {
			all = append(all, api.Tagged{Change: c, Tags: ids})
		}
	}
	return all
}

// older are the ids of the watches whose pictures are older than that stamp.
func (h *holder) older(stamp int) []int {
	return h.which(func(p api.Shot) bool { return p.Stamp < stamp })
}

// which are the ids of the watches with such pictures, rising.
func (h *holder) which(isSuch func(picture api.Shot) bool) []int {
	var ids []int
	for id, picture := range h.pictures {
		if isSuch(picture) {
			ids = append(ids, id)
		}
	}
	slices.Sort(ids)
	return ids
}

// fold turns the pictures that are older than an event.
func (h *holder) fold(event api.Item) {
	for id, picture := range h.pictures {
		if picture.Stamp < event.Stamp {
			h.pictures[id] = folded(picture, event.Stamp, changesFor(id, event))
		}
	}
}

// folded is a picture behind an event; one that missed something ahead of it may be such that the changes can't be, and goes on as it was.
func folded(picture api.Shot, stamp int, changes []api.Change) api.Shot {
	next, code := shot.Fold(picture, stamp, changes)
	if code != api.OK {
		next = picture
		next.Stamp = stamp
	}
	return next
}

// changesFor are the changes of an event that carry a watch's id.
func changesFor(id int, event api.Item) []api.Change {
	var all []api.Change
	for _, c := range event.Changes {
		if slices.Contains(c.Tags, id) {
			all = append(all, c.Change)
		}
	}
	return all
}
