package fan

import (
	"slices"

	"herald/api"
	"herald/queue"
	"herald/state"
	"herald/trie"
)

// isNone tells whether nobody made the hub. What it looks at is never written again, so it needs no lock.
func (h *Hub) isNone() bool {
	return h == nil || h.room == 0
}

// isNumber tells whether a session or a connection may have that number.
func isNumber(v int) bool {
	return 1 <= v && v <= api.MaxNumber
}

func isStamp(v int) bool {
	return 0 <= v && v <= api.MaxNumber
}

// has tells whether a session is there with just that connection.
func (h *Hub) has(session, conn int) bool {
	s, there := h.sessions[session]
	return there && s.conn == conn
}

// mayResume tells why a session may not be resumed, whatever its connection is; else a trie of the watches that it comes with, alone.
func (h *Hub) mayResume(session, last int, watches []api.Watch, m *state.Machine) (*trie.Trie, api.Errno) {
	if m.Last() != h.last {
		return nil, api.ErrStamp
	}
	own := trie.New()
	for _, w := range watches {
		if code := own.Add(session, w); code != api.OK {
			return nil, code
		}
	}
	if last > h.last || slices.ContainsFunc(watches, func(w api.Watch) bool { return w.From > h.last }) {
		return nil, api.ErrAhead
	}
	return own, api.OK
}

// begin puts a session there of which the hub has nothing.
func (h *Hub) begin(session, conn, last int, watches []api.Watch) {
	for _, w := range watches {
		h.watches.Add(session, w)
	}
	q, _ := queue.New(h.room, last)
	h.sessions[session] = resumed{conn: conn, queue: q}
}

// forget takes away all that the hub has of a session.
func (h *Hub) forget(session int) {
	h.watches.Forget(session)
	delete(h.sessions, session)
}

// watchesAlike tells whether a session has that watch, from whatever stamp on.
func (h *Hub) watchesAlike(session int, w api.Watch) bool {
	return slices.ContainsFunc(h.watches.Of(session), func(old api.Watch) bool {
		old.From = w.From
		return old == w
	})
}
