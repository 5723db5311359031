package tree

import (
	"maps"
	"slices"
	"strings"

	"herald/api"
	"herald/place"
)

const root = "/"

// nodes are the nodes of a tree by their places, as values: a copied map is a copied tree.
type nodes map[string]Full

// put keeps copies of the node's texts: the map's key is one of them, as storing under a key that is there replaces it.
func (all nodes) put(n Full) {
	n = n.copied()
	all[n.Place] = n
}

// places are those of all nodes, in their order.
func (all nodes) places() []string {
	return slices.SortedFunc(maps.Keys(all), place.Order)
}

// watched are the places, in their order, of the nodes that a watch sees; there are none without the one that it is of, as no node is without its parent.
func (all nodes) watched(kind int, at string) []string {
	var found []string
	for here := range all {
		if place.Covers(kind, at, api.ChangeMade, here) {
			found = append(found, here)
		}
	}
	slices.SortFunc(found, place.Order)
	return found
}

// kids are the last names of a node's children, in the order of their places.
func (all nodes) kids(at string) []string {
	var names []string
	for _, here := range all.watched(api.WatchKids, at) {
		if here != at {
			name, _ := place.Name(here)
			names = append(names, name)
		}
	}
	return names
}

// parent is the node above a place; the root has none, and a text that is no place neither: no node stands at the empty text.
func (all nodes) parent(at string) (Full, bool) {
	above, _ := place.Parent(at)
	n, there := all[above]
	return n, there
}

// mayHave tells whether a loaded node may stand behind those that are there.
func (all nodes) mayHave(n Full) bool {
	if len(n.Data) > api.MaxData || n.Counter < 0 || n.Counter > api.MaxCounter+1 {
		return false
	}
	for _, number := range [...]int{n.Version, n.Made, n.Changed, n.Owner} {
		if number < 0 || number > api.MaxNumber {
			return false
		}
	}
	if n.isBrief() && (n.Place == root || n.Counter != 0) {
		return false
	}
	parent, there := all.parent(n.Place)
	return n.Place == root || there && !parent.isBrief()
}

func (n Full) isBrief() bool {
	return n.Owner != 0
}

// copied is the node with texts of its own.
func (n Full) copied() Full {
	n.Place = strings.Clone(n.Place)
	n.Data = strings.Clone(n.Data)
	return n
}

// result is what Check and Look answer, and most of what the other ops do.
func (n Full) result() api.Result {
	return api.Result{Place: strings.Clone(n.Place), Version: n.Version, Made: n.Made, Changed: n.Changed, Owner: n.Owner}
}

func (n Full) change(kind int) api.Change {
	return api.Change{Kind: kind, Place: strings.Clone(n.Place), Data: strings.Clone(n.Data), Version: n.Version}
}

// seen is the node as a watch of that kind sees it: one of the children sees that it is there, not what it holds.
func (n Full) seen(kind int) api.Seen {
	if kind == api.WatchKids {
		return api.Seen{Place: strings.Clone(n.Place)}
	}
	return api.Seen{Place: strings.Clone(n.Place), Data: strings.Clone(n.Data), Version: n.Version}
}
