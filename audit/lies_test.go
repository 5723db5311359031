package audit_test

import (
	"slices"

	"herald/api"
	"herald/audit"
)

// lieNames are the kinds of lies that P19.5 names, and some more.
func lieNames() []string {
	return []string{"reply stamp", "reply stamp alone", "told stamp alone", "reply version", "reply data", "item left out", "event twice", "marker twice", "granted data", "marker data", "event data", "event tag"}
}

// lies puts lies into what a world told, one at a time, and holds that each is told, with its place (P19.5).
func (x *witness) lies(seen map[string]int) {
	x.t.Helper()
	for i, t := range x.told {
		switch t.Kind {
		case api.ToldReply:
			x.liesInReply(seen, i, t)
		case api.ToldWatched:
			x.liesInNodes(seen, i, t, "granted data", len(t.Part.Shot.Nodes), func(t *api.Told, k int) *api.Seen { return &t.Part.Shot.Nodes[k] })
		case api.ToldItem:
			x.liesInItem(seen, i, t)
		}
	}
}

// isLie holds that a telling is refused at that place.
func (x *witness) isLie(seen map[string]int, what string, told []api.Told, code api.Errno, at int) {
	x.t.Helper()
	seen[what]++
	if gotCode, gotAt := audit.Check(x.truth.history, told); gotCode != code || gotAt != at {
		x.t.Errorf("P19.5: %s: %d, %d, want %d, %d", what, gotCode, gotAt, code, at)
	}
}

// with is the telling with another thing told at a place.
func (x *witness) with(at int, t api.Told) []api.Told {
	list := slices.Clone(x.told)
	list[at] = t
	return list
}

func (x *witness) liesInReply(seen map[string]int, i int, t api.Told) {
	x.t.Helper()
	lie := func(what string, turn func(*api.Told)) {
		x.isLie(seen, what, x.with(i, changed(t, turn)), api.ErrReply, i)
	}
	for _, by := range []int{-1, 1} {
		lie("reply stamp", func(t *api.Told) { t.Reply.Stamp += by; t.Stamp += by })
		lie("reply stamp alone", func(t *api.Told) { t.Reply.Stamp += by })
		lie("told stamp alone", func(t *api.Told) { t.Stamp += by })
		for k := range t.Reply.Results {
			lie("reply version", func(t *api.Told) { t.Reply.Results[k].Version += by })
		}
	}
	for k := range t.Reply.Results {
		lie("reply data", func(t *api.Told) { t.Reply.Results[k].Data += "!" })
	}
}

// liesInNodes turns the data of each node of a shot.
func (x *witness) liesInNodes(seen map[string]int, i int, t api.Told, what string, count int, node func(t *api.Told, k int) *api.Seen) {
	x.t.Helper()
	for k := range count {
		x.isLie(seen, what, x.with(i, changed(t, func(t *api.Told) { node(t, k).Data += "!" })), api.ErrPicture, i)
	}
}

func (x *witness) liesInItem(seen map[string]int, i int, t api.Told) {
	x.t.Helper()
	if t.Item.Marker {
		x.isLie(seen, "marker twice", slices.Insert(slices.Clone(x.told), i, t), api.ErrOrder, i+1)
		for p, part := range t.Item.Parts {
			x.liesInNodes(seen, i, t, "marker data", len(part.Shot.Nodes), func(t *api.Told, k int) *api.Seen { return &t.Item.Parts[p].Shot.Nodes[k] })
		}
		return
	}
	x.isLie(seen, "event twice", slices.Insert(slices.Clone(x.told), i, t), api.ErrOrder, i+1)
	for k := range t.Item.Changes {
		x.isLie(seen, "event data", x.with(i, changed(t, func(t *api.Told) { t.Item.Changes[k].Change.Data += "!" })), api.ErrEvent, i)
		x.isLie(seen, "event tag", x.with(i, changed(t, func(t *api.Told) { t.Item.Changes[k].Tags[0]++ })), api.ErrEvent, i)
	}
	if next := x.eventBehind(i, t); next > 0 {
		x.isLie(seen, "item left out", slices.Delete(slices.Clone(x.told), i, i+1), api.ErrMissed, next-1)
	}
}

// eventBehind is the place of the next item of an event's session, if that is an event, and one of the watches that the first one was for is still held then.
func (x *witness) eventBehind(i int, t api.Told) int {
	var ids []int
	for _, c := range t.Item.Changes {
		ids = append(ids, c.Tags...)
	}
	for k, b := range x.told[i+1:] {
		switch {
		case b.Client != t.Client || b.Session != t.Session:
		case b.Kind == api.ToldUnwatch:
			ids = slices.DeleteFunc(ids, func(id int) bool { return id == b.Watch.Id })
		case b.Kind == api.ToldGone || b.Kind == api.ToldItem && b.Item.Marker:
			return 0
		case b.Kind == api.ToldItem && len(ids) > 0:
			return i + 1 + k
		case b.Kind == api.ToldItem:
			return 0
		}
	}
	return 0
}
