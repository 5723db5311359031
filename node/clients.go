package node

import "herald/api"

// enters tells whether a client's note is looked at further; if not, the client is told where to go, or that its session is over.
func (v *visit) enters() bool {
	if !v.core.Active() {
		v.send(v.from, api.Note{Kind: api.NoteElsewhere, View: v.core.View()})
		return false
	}
	if v.isToStay() {
		v.hear()
		return true
	}
	if v.note.Kind != api.NoteOpen && !v.isHere() {
		v.answer(api.Note{Kind: api.NoteGone})
		return false
	}
	return true
}

// isHere tells whether the note's session is open here.
func (v *visit) isHere() bool { return v.isOpen(v.note.Session) }

// isToStay tells whether the note's session will be open.
func (v *visit) isToStay() bool { return v.willBeOpen(v.note.Session) }

// hear remembers from where the note's session was heard, and that it was just now.
func (v *visit) hear() { v.heard[v.note.Session] = hearing{address: v.from} }

// answer sends whoever sent the note another one of the same session.
func (v *visit) answer(with api.Note) {
	with.Session, with.View = v.note.Session, v.viewNumber()
	v.send(v.from, with)
}

// answerResumed tells how the note's connection stands.
func (v *visit) answerResumed(code api.Errno) {
	v.answer(api.Note{Kind: api.NoteResumed, Conn: v.note.Conn, Stamp: v.hub.Last(), Code: code})
}

func (v *visit) takeOpen() {
	session := v.note.Session
	switch {
	case v.isToStay():
		if v.isHere() {
			v.answer(api.Note{Kind: api.NoteOpened})
		}
	case session > v.nextSlot(session).greatest:
		v.proposeOpen()
	case !v.isHere():
		v.answer(api.Note{Kind: api.NoteOpened, Code: api.ErrOld})
	}
}

// proposeOpen hears the session ahead of the act: that may have the answer already.
func (v *visit) proposeOpen() {
	_, act, code := v.core.Propose(api.Entry{Kind: api.EntryOpen, Session: v.note.Session})
	if code != api.OK {
		return
	}
	v.hear()
	v.do(act)
}

func (v *visit) takeClose() {
	v.propose(api.Entry{Kind: api.EntryClose, Session: v.note.Session})
}

func (v *visit) takeCall() {
	session, request := v.note.Session, v.note.Request
	kept, reply, _ := v.machine.Kept(session)
	greatest := v.greatestOpenRequest(session)
	isOnItsWay := greatest > 0
	if !isOnItsWay {
		greatest = kept
	}
	switch {
	case request > greatest:
		v.propose(api.Entry{Kind: api.EntryRequest, Session: session, Request: request, Ops: v.note.Ops})
	case request == greatest && !isOnItsWay:
		v.answer(api.Note{Kind: api.NoteAnswer, Request: request, Reply: reply})
	}
}

// greatestOpenRequest is the greatest one of a session's requests among the open entries, behind its opening if that is one of them, too; 0, if there is none.
func (n *Node) greatestOpenRequest(session int) int {
	greatest := 0
	for _, e := range n.open {
		if e.Session != session {
			continue
		}
		if e.Kind == api.EntryOpen {
			greatest = 0
		}
		greatest = max(greatest, e.Request)
	}
	return greatest
}

func (v *visit) takeBeat() {
	if conn, _ := v.queued(v.note.Session); conn != v.note.Conn {
		v.answerResumed(api.ErrSession)
	}
}

func (v *visit) takeResume() {
	code := v.hub.Resume(v.note.Session, v.note.Conn, v.note.Stamp, v.note.Watches, v.machine)
	if code == api.ErrOld {
		return
	}
	v.answerResumed(code)
	v.waits = code == api.OK
}

func (v *visit) takeWatch() {
	watch := v.note.Watches[0]
	part, code := v.hub.Watch(v.note.Session, v.note.Conn, watch, v.machine)
	if code == api.ErrSession {
		v.answerResumed(code)
		return
	}
	if code != api.OK {
		part = api.Part{Id: watch.Id}
	}
	v.answer(api.Note{Kind: api.NoteWatched, Conn: v.note.Conn, Stamp: v.hub.Last(), Code: code, Parts: []api.Part{part}})
}

func (v *visit) takeUnwatch() {
	watches := v.note.Watches
	if v.hub.Unwatch(v.note.Session, v.note.Conn, watches[0].Id) == api.ErrSession {
		v.answerResumed(api.ErrSession)
		return
	}
	v.answer(api.Note{Kind: api.NoteUnwatched, Conn: v.note.Conn, Watches: watches})
}

func (v *visit) takeTook() {
	_, before := v.queued(v.note.Session)
	if v.hub.Took(v.note.Session, v.note.Conn, v.note.Stamp) == api.ErrSession {
		v.answerResumed(api.ErrSession)
		return
	}
	_, behind := v.queued(v.note.Session)
	v.waits = behind < before
}
