package fan

import (
	"cmp"
	"slices"
	"strings"
	"sync"

	"herald/api"
	"herald/queue"
	"herald/state"
	"herald/trie"
)

// entry is what the memory has of an entry of the history.
type entry struct {
	stamp   int
	changes []api.Change
}

// found is a change with the watches that it is for, by sessions, then ids.
type found struct {
	change api.Change
	tags   []api.Tag
}

// entryOf has changes and texts of its own.
func entryOf(stamp int, changes []api.Change) entry {
	e := entry{stamp: stamp, changes: make([]api.Change, len(changes))}
	for i, c := range changes {
		c.Place, c.Data = strings.Clone(c.Place), strings.Clone(c.Data)
		e.changes[i] = c
	}
	return e
}

// floor is the stamp up to which the memory has nothing.
func (h *Hub) floor() int {
	return h.last - len(h.memory)
}

// remember puts the next entry into the memory, in the place of the oldest one, if there is no other.
func (h *Hub) remember(e entry) {
	if len(h.memory) == h.keep {
		h.memory = slices.Delete(h.memory, 0, 1)
	}
	h.memory = append(h.memory, e)
	h.last = e.stamp
}

// tellAll tells an entry to the sessions, all of them side by side.
func (h *Hub) tellAll(e entry, m *state.Machine) {
	// Asked once for all: else the watches of every session would be gone through for each of them.
	matches := match(h.watches, e)
	var all sync.WaitGroup
	for session, s := range h.sessions {
		all.Add(1)
		go func() {
			defer all.Done()
			h.tell(session, s.queue, e.stamp, tagged(matches, session), m)
		}()
	}
	all.Wait()
}

// catchUp tells a session that was just resumed what it missed behind last; own has its watches alone.
func (h *Hub) catchUp(session, last int, own *trie.Trie, m *state.Machine) {
	q := h.sessions[session].queue
	if last < h.floor() {
		h.collapse(session, q, m)
		return
	}
	for _, e := range h.memory[last-h.floor():] {
		if h.tell(session, q, e.stamp, tagged(match(own, e), session), m) {
			return
		}
	}
}

// tell gives a session's queue an event; true: it had no room, and one marker stands for all now.
func (h *Hub) tell(session int, q *queue.Queue, stamp int, changes []api.Tagged, m *state.Machine) bool {
	if len(changes) == 0 || q.Put(stamp, changes) != api.ErrFull {
		return false
	}
	h.collapse(session, q, m)
	return true
}

// collapse puts a marker with the parts of all the session's watches in the place of all items; without a watch the queue refuses it, and stays as it is.
func (h *Hub) collapse(session int, q *queue.Queue, m *state.Machine) {
	var parts []api.Part
	for _, w := range h.watches.Of(session) {
		parts = append(parts, partOf(w, m))
	}
	q.Collapse(m.Last(), parts)
}

// partOf is the part of a watch that the trie took, so its place and kind are none that a machine refuses.
func partOf(w api.Watch, m *state.Machine) api.Part {
	shot, _ := m.Part(w.Place, w.Kind)
	return api.Part{Id: w.Id, Shot: shot}
}

// match has those of an entry's changes that are for a watch, in their order.
func match(watches *trie.Trie, e entry) []found {
	var all []found
	for _, c := range e.changes {
		if tags := watches.Match(e.stamp, c); len(tags) > 0 {
			all = append(all, found{change: c, tags: tags})
		}
	}
	return all
}

// tagged has those changes that are for a watch of one session, each with the ids of all its watches that it is for.
func tagged(matches []found, session int) []api.Tagged {
	var all []api.Tagged
	for _, f := range matches {
		if ids := idsOf(f.tags, session); len(ids) > 0 {
			all = append(all, api.Tagged{Change: f.change, Tags: ids})
		}
	}
	return all
}

func idsOf(tags []api.Tag, session int) []int {
	at, _ := slices.BinarySearchFunc(tags, session, func(tag api.Tag, session int) int {
		return cmp.Compare(tag.Session, session)
	})
	var ids []int
	for at < len(tags) && tags[at].Session == session {
		ids = append(ids, tags[at].Id)
		at++
	}
	return ids
}
