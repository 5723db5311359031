package shot

import (
	"slices"
	"strings"

	"herald/api"
	"herald/place"
)

// play turns a shot by one change, or tells that the change cannot be.
func play(s *api.Shot, c api.Change) bool {
	// A change that may be anywhere is one for the whole tree.
	if !place.Covers(api.WatchSubtree, root, c.Kind, c.Place) {
		return false
	}
	if !place.Covers(s.Kind, s.Place, c.Kind, c.Place) {
		return true
	}
	i, there := find(s.Nodes, c.Place)
	switch c.Kind {
	case api.ChangeMade:
		if there || !mayMake(s, c) {
			return false
		}
		s.Nodes = slices.Insert(s.Nodes, i, seenBy(s.Kind, c))
	case api.ChangeSet:
		if !there || !fits(c.Data, c.Version) {
			return false
		}
		s.Nodes[i] = seenBy(s.Kind, c)
	case api.ChangeGone:
		if !there || !mayGo(s.Nodes, i) {
			return false
		}
		s.Nodes = slices.Delete(s.Nodes, i, i+1)
	}
	return true
}

// mayMake tells whether a shot has room for a node that it does not have.
func mayMake(s *api.Shot, c api.Change) bool {
	if c.Place != s.Place && !hasParent(s.Nodes, c.Place) {
		return false
	}
	return fits(c.Data, c.Version) && len(s.Nodes) < api.MaxNodes
}

// mayGo asks the next node alone, as what is below a node follows it at once.
func mayGo(list []api.Seen, i int) bool {
	at := list[i].Place
	if at == root {
		return false
	}
	return i+1 == len(list) || !place.Covers(api.WatchSubtree, at, api.ChangeGone, list[i+1].Place)
}

// seenBy is the node that a change leaves, as a watch of that kind sees it.
func seenBy(kind int, c api.Change) api.Seen {
	if kind == api.WatchKids {
		return seen(c.Place, "", 0)
	}
	return seen(c.Place, c.Data, c.Version)
}

// parting goes along two lists at once, as both stand in order: what the second one does not have is gone, what it has anew or otherwise is turned.
func parting(a, b []api.Seen) (gone, turned []api.Change) {
nodes:
	for i, was := range a {
		for {
			if len(b) == 0 {
				gone = append(gone, changesOf(api.ChangeGone, a[i:])...)
				break nodes
			}
			n := b[0]
			order := place.Order(was.Place, n.Place)
			if order < 0 {
				gone = append(gone, change(api.ChangeGone, was))
				continue nodes
			}
			b = b[1:]
			if order > 0 {
				turned = append(turned, change(api.ChangeMade, n))
				continue
			}
			if was != n {
				turned = append(turned, change(api.ChangeSet, n))
			}
			continue nodes
		}
	}
	return gone, append(turned, changesOf(api.ChangeMade, b)...)
}

func changesOf(kind int, list []api.Seen) []api.Change {
	var all []api.Change
	for _, n := range list {
		all = append(all, change(kind, n))
	}
	return all
}

// change tells what a node holds only if it is still there.
func change(kind int, n api.Seen) api.Change {
	if kind == api.ChangeGone {
		return api.Change{Kind: kind, Place: strings.Clone(n.Place)}
	}
	return api.Change{Kind: kind, Place: strings.Clone(n.Place), Data: strings.Clone(n.Data), Version: n.Version}
}
