package recipe

import (
	"slices"
	"strings"

	"herald/api"
	"herald/place"
)

const counterWidth = 5

// rivalsOf are the names of the job's nodes among names, in their order.
func (c *common) rivalsOf(names []string) []string {
	var rivals []string
	for _, name := range names {
		if c.isRival(name) {
			rivals = append(rivals, name)
		}
	}
	slices.Sort(rivals)
	return rivals
}

// rivalsIn are the job's nodes in a picture, in the order of their names.
func (c *common) rivalsIn(picture api.Shot) []api.Seen {
	var rivals []api.Seen
	for _, n := range picture.Nodes {
		if c.isRivalPlace(n.Place) {
			rivals = append(rivals, n)
		}
	}
	slices.SortFunc(rivals, func(a, b api.Seen) int { return strings.Compare(a.Place, b.Place) })
	return rivals
}

func (c *common) isRival(name string) bool {
	digits, isOne := strings.CutPrefix(name, c.nodeName())
	return isOne && len(digits) == counterWidth && strings.Trim(digits, "0123456789") == ""
}

func (c *common) isRivalPlace(at string) bool {
	parent, code := place.Parent(at)
	if code != api.OK || parent != c.Base {
		return false
	}
	name, _ := place.Name(at)
	return c.isRival(name)
}

// below is the place of a name below Base, where there is room for it: New has seen to that.
func (c *common) below(name string) string {
	at, _ := place.Join(c.Base, name)
	return at
}

func (c *common) nodeName() string { return kinds[c.Kind].name }
