package node

import (
	"maps"

	"herald/api"
)

// nowhere is the address of a session that was not heard as yet.
const nowhere = 0

// hearing is from where a session was heard last, and how many units of time ago.
type hearing struct {
	address, quiet int
}

// slot is what a slot of the machine is, or will be: its greatest session, and whether that is open.
type slot struct {
	greatest int
	isOpen   bool
}

// turn is what an entry does to its slot.
func (s *slot) turn(e api.Entry) {
	switch {
	case e.Kind == api.EntryOpen && e.Session > s.greatest:
		*s = slot{e.Session, true}
	case e.Kind != api.EntryOpen && e.Kind != api.EntryRequest && e.Session == s.greatest:
		s.isOpen = false
	}
}

// isOpen tells whether a session is open here.
func (n *Node) isOpen(session int) bool {
	_, _, code := n.machine.Kept(session)
	return code == api.OK
}

// nextSlot is the slot of a session as it will be behind the open entries.
func (n *Node) nextSlot(session int) slot {
	number := session % api.MaxSlots
	greatest := n.machine.Newest(number)
	next := slot{greatest, n.isOpen(greatest)}
	for _, e := range n.open {
		if e.Session%api.MaxSlots == number {
			next.turn(e)
		}
	}
	return next
}

func (n *Node) willBeOpen(session int) bool {
	return n.nextSlot(session) == slot{session, true}
}

// forgetGone forgets what was heard of sessions that are over.
func (n *Node) forgetGone() {
	maps.DeleteFunc(n.heard, func(session int, _ hearing) bool {
		return !n.isOpen(session) && !n.willBeOpen(session)
	})
}

// giveUpQuiet lets a unit of time go by for all sessions, and gives up those that were quiet for longer than the lease.
func (n *Node) giveUpQuiet() {
	if !n.core.Active() || n.rules.Lease == 0 {
		return
	}
	for _, session := range n.machine.Sessions() {
		h := n.heard[session]
		h.quiet++
		n.heard[session] = h
		if h.quiet > n.rules.Lease && n.willBeOpen(session) {
			n.propose(api.Entry{Kind: api.EntryExpire, Session: session})
		}
	}
}

// propose puts an entry into the log; what the core does not take is left out, as whoever wants it asks again.
func (n *Node) propose(e api.Entry) {
	if _, act, code := n.core.Propose(e); code == api.OK {
		n.do(act)
	}
}

// tellSession sends a session what is told of it, if it is known where it is.
func (n *Node) tellSession(what api.Note) {
	address := n.heard[what.Session].address
	if address == nowhere {
		return
	}
	what.View = n.viewNumber()
	n.send(address, what)
}

// queued is the connection by which the hub has a session, and how many items wait for it; 0, if it has none.
func (n *Node) queued(session int) (conn, items int) {
	sessions, conns, counts := n.hub.Sessions()
	for i, s := range sessions {
		if s == session {
			return conns[i], counts[i]
		}
	}
	return 0, 0
}

func (n *Node) deliverToAll() {
	sessions, _, _ := n.hub.Sessions()
	for _, session := range sessions {
		n.deliver(session)
	}
}

// deliver sends a session the first ones of the items that wait for it; they wait till it says that it took them.
func (n *Node) deliver(session int) {
	conn, items := n.queued(session)
	if items == 0 {
		return
	}
	var watches []api.Watch
	for _, w := range n.hub.Watches(session) {
		watches = append(watches, api.Watch{Id: w.Id})
	}
	n.tellSession(api.Note{Kind: api.NoteDeliver, Session: session, Conn: conn, Watches: watches, Items: n.hub.Next(session, n.rules.Window)})
}
