package client

import (
	"slices"

	"herald/api"
)

// visit is a note that has come to a client, and what the client tells and sends of it.
type visit struct {
	*Client
	from int
	note api.Note
	told []api.Told
	sent []api.Message
}

// takings are what a client does at notes, by their kinds. All of these speak of a view.
func takings() map[int]func(*visit) {
	return map[int]func(*visit){
		api.NoteTell:      (*visit).takeTell,
		api.NoteElsewhere: (*visit).takeElsewhere,
		api.NoteOpened:    (*visit).takeOpened,
		api.NoteGone:      (*visit).takeGone,
		api.NoteAnswer:    (*visit).takeAnswer,
		api.NoteResumed:   (*visit).takeResumed,
		api.NoteWatched:   (*visit).takeWatched,
		api.NoteUnwatched: (*visit).takeUnwatched,
		api.NoteDeliver:   (*visit).takeDeliver,
	}
}

// come does what the note asks for, unless it comes from a node that doesn't know that it was replaced.
func (v *visit) come() {
	take, known := takings()[v.note.Kind]
	if known && v.note.View.Num >= v.view.Num {
		take(v)
	}
}

func (v *visit) tell(t api.Told) { v.told = append(v.told, v.tells(t)...) }

// isOf tells whether the note speaks of the client's session, in one of these phases.
func (v *visit) isOf(phases ...phase) bool {
	return v.note.Session == v.id && slices.Contains(phases, v.phase)
}

// isOfConn tells whether the note speaks of the connection of the open session.
func (v *visit) isOfConn() bool { return v.isOf(open) && v.note.Conn == v.conn }

// renewAndAsk makes a new connection, and asks by it.
func (v *visit) renewAndAsk() {
	v.renew()
	v.sent = v.asks()
}

func (v *visit) takeTell() {
	if v.from == service {
		v.learn()
	}
}

func (v *visit) takeElsewhere() {
	if isWithin(v.from, v.nodes) {
		v.learn()
	}
}

// learn takes over a later view.
func (v *visit) learn() {
	next := v.note.View
	if next.Num <= v.view.Num || !isWithin(next.Primary, v.nodes) {
		return
	}
	v.view = next
	if v.phase == open {
		v.renew()
	}
	v.sent = v.asks()
}

func (v *visit) takeOpened() {
	if !v.isOf(opening) {
		return
	}
	if v.note.Code != api.OK {
		v.leave(v.note.Code)
		return
	}
	v.phase = open
	v.tell(api.Told{Kind: api.ToldBegun})
	v.renewAndAsk()
}

func (v *visit) takeGone() {
	if v.isOf(open, ending) {
		v.leave(api.OK)
	}
}

// leave tells that the session is over, and forgets all of it.
func (v *visit) leave(code api.Errno) {
	v.tell(api.Told{Kind: api.ToldGone, Code: code})
	v.phase, v.session = none, session{}
}

func (v *visit) takeAnswer() {
	if !v.isOf(open) || !v.isPending || v.note.Request != v.requests {
		return
	}
	v.isPending, v.ops = false, nil
	v.tell(api.Told{Kind: api.ToldReply, Request: v.requests, Reply: v.note.Reply, Stamp: v.note.Reply.Stamp})
}

func (v *visit) takeResumed() {
	if !v.isOfConn() {
		return
	}
	isRight := v.note.Code == api.OK
	switch {
	case isRight && !v.isResumed:
		v.isResumed = true
		v.sent = v.asksBut(api.NoteCall)
	case !isRight && v.isResumed:
		v.renewAndAsk()
	}
}

func (v *visit) takeWatched() {
	part := v.note.Parts[0]
	w := v.find(part.Id, asked)
	switch {
	case !v.isOfConn() || w == nil:
	case v.note.Code != api.OK:
		v.tell(api.Told{Kind: api.ToldWatched, Code: v.note.Code, Watch: w.plain()})
		v.drop(w.id)
	case w.fits(part.Shot) && part.Shot.Stamp >= v.last:
		w.standing, w.picture = granted, copiedShot(part.Shot)
		v.tell(api.Told{Kind: api.ToldWatched, Stamp: part.Shot.Stamp, Watch: w.since(), Part: part})
		v.renewAndAsk()
	}
}

func (v *visit) takeUnwatched() {
	w := v.find(v.note.Watches[0].Id, leaving)
	if !v.isOfConn() || w == nil {
		return
	}
	v.drop(w.id)
	v.renewAndAsk()
}
