package recipe

import (
	"slices"
	"strings"

	"herald/api"
	"herald/shot"
)

// watch is one that was wished for.
type watch struct {
	place     string
	kind      int
	id        int // 0: it is not known as yet
	isGranted bool
	picture   api.Shot
}

// watchAt watches a place.
func (c *common) watchAt(at string, kind int) {
	c.watch = &watch{place: at, kind: kind}
	c.wish(api.Wish{Kind: api.WishWatch, Place: strings.Clone(at), Watch: kind})
}

// giveUp gives the watch up, if there is one.
func (c *common) giveUp() {
	w := c.watch
	c.watch = nil
	switch {
	case w == nil:
	case w.id == 0:
		c.late = append(c.late, *w)
	default:
		c.wishUnwatch(w.id)
	}
}

func (c *common) wishUnwatch(id int) { c.wish(api.Wish{Kind: api.WishUnwatch, Id: id}) }

// hearWatch learns a watch's id. Those that are to be given up were wished for earlier, so they come first.
func (c *common) hearWatch(heard api.Watch) {
	isIt := func(w watch) bool { return w.place == heard.Place && w.kind == heard.Kind }
	if i := slices.IndexFunc(c.late, isIt); i >= 0 {
		c.late = slices.Delete(c.late, i, i+1)
		c.wishUnwatch(heard.Id)
		return
	}
	if c.watch != nil && c.watch.id == 0 && isIt(*c.watch) {
		c.watch.id = heard.Id
	}
}

// awaits tells whether the watch is one of that id that is neither granted nor refused as yet.
func (w *watch) awaits(id int) bool {
	return w != nil && w.id != 0 && w.id == id && !w.isGranted
}

// turn turns the picture by an item, and tells whether the item speaks of the watch at all.
func (w *watch) turn(item api.Item) bool {
	if w == nil || !w.isGranted {
		return false
	}
	if item.Marker {
		return w.turnByParts(item.Parts)
	}
	return w.turnByChanges(item.Stamp, item.Changes)
}

func (w *watch) turnByParts(parts []api.Part) bool {
	i := slices.IndexFunc(parts, func(p api.Part) bool { return p.Id == w.id })
	if i < 0 {
		return false
	}
	w.picture = copiedShot(parts[i].Shot)
	return true
}

// turnByChanges: a picture on which the changes can't follow stays as it was, and is looked at all the same.
func (w *watch) turnByChanges(stamp int, all []api.Tagged) bool {
	var its []api.Change
	for _, c := range all {
		if slices.Contains(c.Tags, w.id) {
			its = append(its, c.Change)
		}
	}
	if next, code := shot.Fold(w.picture, stamp, its); len(its) > 0 && code == api.OK {
		w.picture = next
	}
	return len(its) > 0
}
