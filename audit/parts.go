package audit

import (
	"slices"

	"herald/api"
	"herald/state"
)

// scene is a part of the tree at a stamp.
type scene struct {
	stamp int
	place string
	kind  int
}

func sceneOf(s api.Shot) scene { return scene{s.Stamp, s.Place, s.Kind} }

// scenesOf are those of which told things speak, by their stamps: as the model plays forward only, they must be known ahead.
func scenesOf(told []api.Told) map[int][]scene {
	all := map[int][]scene{}
	add := func(p api.Part) { all[p.Shot.Stamp] = append(all[p.Shot.Stamp], sceneOf(p.Shot)) }
	for _, t := range told {
		switch t.Kind {
		case api.ToldWatched:
			add(t.Part)
		case api.ToldItem:
			for _, p := range t.Item.Parts {
				add(p)
			}
		}
	}
	return all
}

// parts are the nodes of the model's tree in such scenes; of what is no place or no kind there are none, not even an empty list.
type parts map[scene][]api.Seen

// take takes the parts of the tree as it is now.
func (all parts) take(m *state.Machine, scenes []scene) {
	for _, s := range scenes {
		if _, isTaken := all[s]; isTaken {
			continue
		}
		if part, code := m.Part(s.place, s.kind); code == api.OK {
			all[s] = part.Nodes
		}
	}
}

// has tells whether a shot is the model's part at its stamp.
func (all parts) has(s api.Shot) bool {
	nodes, isPart := all[sceneOf(s)]
	return isPart && slices.Equal(s.Nodes, nodes)
}
