package shot

import (
	"slices"
	"strings"

	"herald/api"
	"herald/place"
)

const root = "/"

func isNumber(v int) bool {
	return 0 <= v && v <= api.MaxNumber
}

// fits tells whether a node may hold that, wherever it is.
func fits(data string, version int) bool {
	return len(data) <= api.MaxData && isNumber(version)
}

// isFor tells whether a shot may have a node at a place. It may have one at its own, if its own is a place and its kind one that there is.
func isFor(s api.Shot, at string) bool {
	return place.Covers(s.Kind, s.Place, api.ChangeMade, at)
}

// mayHave tells whether a node may stand in a shot, right behind those ahead of it.
func mayHave(s api.Shot, ahead []api.Seen, n api.Seen) bool {
	if !isFor(s, n.Place) || !fits(n.Data, n.Version) {
		return false
	}
	if s.Kind == api.WatchKids && n != (api.Seen{Place: n.Place}) {
		return false
	}
	if len(ahead) == 0 {
		// The shot's own place comes ahead of all that it is for, so it is here or nowhere.
		return n.Place == s.Place
	}
	last := ahead[len(ahead)-1]
	return place.Order(last.Place, n.Place) < 0 && hasParent(ahead, n.Place)
}

// find tells where in a list that stands in order the node of a place is, or would be.
func find(list []api.Seen, at string) (int, bool) {
	return slices.BinarySearchFunc(list, at, func(n api.Seen, at string) int {
		return place.Order(n.Place, at)
	})
}

// hasParent tells whether the node above a place is there; of the root there is none, as no node stands at the empty text.
func hasParent(list []api.Seen, at string) bool {
	above, _ := place.Parent(at)
	_, there := find(list, above)
	return there
}

// copied is a list of nodes with texts of their own.
func copied(list []api.Seen) []api.Seen {
	own := make([]api.Seen, len(list))
	for i, n := range list {
		own[i] = seen(n.Place, n.Data, n.Version)
	}
	return own
}

// seen is a node with texts of its own.
func seen(at, data string, version int) api.Seen {
	return api.Seen{Place: strings.Clone(at), Data: strings.Clone(data), Version: version}
}
