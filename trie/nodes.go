package trie

import (
	"maps"
	"slices"
	"strings"

	"herald/place"
)

// node is a place that is watched, or lies above one that is.
type node struct {
	kids    map[string]*node // by the names that they have below this one
	watches list             // of this place itself
}

// add puts a watch at the end of a way down from here, and makes the nodes that are not there.
func (n *node) add(names []string, h *held) {
	if len(names) == 0 {
		n.watches = n.watches.with(h)
		return
	}
	n.kid(names[0]).add(names[1:], h)
}

// kid is the node below this one with a name; it is made, if it is not there.
func (n *node) kid(name string) *node {
	if n.kids == nil {
		n.kids = map[string]*node{}
	}
	found, there := n.kids[name]
	if !there {
		found = &node{}
		// A name that was cut out of a place would hold the whole of it in memory.
		n.kids[strings.Clone(name)] = found
	}
	return found
}

// drop takes a watch away from the end of a way down from here, and then the nodes along it that are not needed any more.
func (n *node) drop(names []string, h *held) {
	if len(names) == 0 {
		n.watches = n.watches.without(h)
		return
	}
	kid := n.kids[names[0]]
	kid.drop(names[1:], h)
	if kid.isBare() {
		delete(n.kids, names[0])
	}
}

func (n *node) isBare() bool {
	return len(n.watches) == 0 && len(n.kids) == 0
}

// along puts the watches of this node and of those on a way down from here behind those that were found ahead: the only ones that can be for a change at its end.
func (n *node) along(names []string, found list) list {
	found = append(found, n.watches...)
	if len(names) == 0 {
		return found
	}
	kid, there := n.kids[names[0]]
	if !there {
		return found
	}
	return kid.along(names[1:], found)
}

// all puts the watches of this node and of all below it behind those that were found ahead, in the order of the places.
func (n *node) all(found list) list {
	found = append(found, n.watches...)
	for _, name := range slices.SortedFunc(maps.Keys(n.kids), place.Order) {
		found = n.kids[name].all(found)
	}
	return found
}

func (n *node) size() int {
	size := 1
	for _, kid := range n.kids {
		size += kid.size()
	}
	return size
}
