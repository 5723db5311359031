package client

import (
	"slices"

	"herald/api"
)

// takeDeliver takes what is new of the items, as long as whoever sends them knows all watches that they are for.
func (v *visit) takeDeliver() {
	if !v.isOfConn() {
		return
	}
	for _, item := range v.note.Items {
		if !v.isNew(item) {
			continue
		}
		if v.lacksWatch(item.Stamp) {
			v.renewAndAsk()
			return
		}
		v.takeItem(item)
	}
	v.sent = []api.Message{v.toPrimary(api.Note{Kind: api.NoteTook, Conn: v.conn, Stamp: v.last})}
}

// isNew: an event must go on from what was taken, while a marker stands for all that lies ahead of it.
func (s *session) isNew(item api.Item) bool {
	return s.last < item.Stamp && (item.Marker || item.After <= s.last)
}

// lacksWatch tells whether the note doesn't name a watch that an item with that stamp is news for.
func (v *visit) lacksWatch(stamp int) bool {
	return slices.ContainsFunc(v.watches, func(w watch) bool {
		isNamed := slices.ContainsFunc(v.note.Watches, func(named api.Watch) bool { return named.Id == w.id })
		return w.isBelow(stamp) && !isNamed
	})
}

// takeItem takes an item; what of it is right is told.
func (v *visit) takeItem(item api.Item) {
	v.last = item.Stamp
	if item.Marker {
		item.Parts = v.takeParts(item)
	} else {
		item.Changes = v.takeChanges(item)
	}
	if len(item.Parts)+len(item.Changes) > 0 {
		v.tell(api.Told{Kind: api.ToldItem, Stamp: item.Stamp, Item: item})
	}
}

// takeParts puts the right parts of a marker in the place of the pictures; these parts it answers.
func (v *visit) takeParts(item api.Item) []api.Part {
	var right []api.Part
	for _, part := range item.Parts {
		w := v.find(part.Id, granted)
		if w == nil || part.Shot.Stamp != item.Stamp || !w.isBelow(item.Stamp) || !w.fits(part.Shot) {
			continue
		}
		w.picture = copiedShot(part.Shot)
		right = append(right, part)
	}
	return right
}

// takeChanges folds the changes of an event into the pictures that are below it; it answers the changes with their right tags.
func (v *visit) takeChanges(item api.Item) []api.Tagged {
	var right []api.Tagged
	for _, c := range item.Changes {
		if tags := v.rightTags(item.Stamp, c.Tags); len(tags) > 0 {
			right = append(right, api.Tagged{Change: c.Change, Tags: tags})
		}
	}
	for i := range v.watches {
		if w := &v.watches[i]; w.isBelow(item.Stamp) {
			w.fold(item.Stamp, right)
		}
	}
	return right
}

// rightTags are those of the tags whose watches have pictures that are below a stamp.
func (s *session) rightTags(stamp int, tags []int) []int {
	var right []int
	for _, id := range tags {
		if w := s.find(id, granted); w != nil && w.isBelow(stamp) {
			right = append(right, id)
		}
	}
	return right
}
