package client

import (
	"slices"
	"strings"

	"herald/api"
	"herald/shot"
)

// standing is how far a watch has come.
type standing int

const (
	asked standing = iota
	granted
	leaving
)

// watch is a watch of the session. The picture has its place and kind, also while it is asked; one that is leaving has nothing but its id.
type watch struct {
	id       int
	standing standing
	picture  api.Shot
}

func newWatch(id int, at string, kind int) watch {
	return watch{id: id, standing: asked, picture: api.Shot{Place: strings.Clone(at), Kind: kind}}
}

// find is the watch with an id, if it has one of these standings; nil, if there is none.
func (s *session) find(id int, standings ...standing) *watch {
	for i, w := range s.watches {
		if w.id == id && slices.Contains(standings, w.standing) {
			return &s.watches[i]
		}
	}
	return nil
}

func (s *session) drop(id int) {
	s.watches = slices.DeleteFunc(s.watches, func(w watch) bool { return w.id == id })
}

// plain is what the watch is of.
func (w watch) plain() api.Watch {
	return api.Watch{Id: w.id, Place: strings.Clone(w.picture.Place), Kind: w.picture.Kind}
}

// since is what the watch is of, and from which stamp on it is to be told of changes.
func (w watch) since() api.Watch {
	p := w.plain()
	p.From = w.picture.Stamp
	return p
}

// fits tells whether a shot is one of the watch's part.
func (w watch) fits(s api.Shot) bool {
	return s.Place == w.picture.Place && s.Kind == w.picture.Kind && shot.Check(s) == api.OK
}

// isBelow tells whether there is a picture that what happened at a stamp is news for.
func (w watch) isBelow(stamp int) bool {
	return w.standing == granted && w.picture.Stamp < stamp
}

// fold turns the picture by those of an event's changes that are for the watch.
func (w *watch) fold(stamp int, changes []api.Tagged) {
	var its []api.Change
	for _, c := range changes {
		if slices.Contains(c.Tags, w.id) {
			its = append(its, c.Change)
		}
	}
	if next, code := shot.Fold(w.picture, stamp, its); code == api.OK {
		w.picture = next
	}
}

func copiedShot(s api.Shot) api.Shot {
	nodes := make([]api.Seen, len(s.Nodes))
	for i, n := range s.Nodes {
		nodes[i] = api.Seen{Place: strings.Clone(n.Place), Data: strings.Clone(n.Data), Version: n.Version}
	}
	s.Place, s.Nodes = strings.Clone(s.Place), nodes
	return s
}
