package node

import "herald/api"

// clientsBehind is the number behind which the addresses of clients begin.
const clientsBehind = 100

// sender is what somebody is who sends messages.
type sender int

const (
	nobody sender = iota
	service
	peer
	client
)

func (n *Node) senderAt(address int) sender {
	switch {
	case address == 0:
		return service
	case isWithin(address, 1, n.rules.Nodes):
		return peer
	case isWithin(address-clientsBehind, 1, n.rules.Clients):
		return client
	}
	return nobody
}

// visit is a note that has come to a server.
type visit struct {
	*Node
	from  int
	note  api.Note
	waits bool // its session is to be given what waits for it
}

// row tells who may send notes of a kind, and what the server does at them; of notes of clients also of which sessions.
type row struct {
	from  sender
	needs func(*visit) bool
	take  func(*visit)
}

// rows are what a server does at notes, by their kinds.
func rows() map[int]row {
	return map[int]row{
		api.NoteTell: {service, (*visit).always, (*visit).takeView},

		api.NoteJoin:   {peer, (*visit).always, (*visit).takeByCore},
		api.NoteAppend: {peer, (*visit).canBePlayed, (*visit).takeByCore},
		api.NoteAcked:  {peer, (*visit).always, (*visit).takeByCore},
		api.NoteFull:   {peer, (*visit).canBeThawed, (*visit).takeByCore},
		api.NoteProbe:  {peer, (*visit).always, (*visit).takeByCore},

		api.NoteOpen:    {client, (*visit).always, (*visit).takeOpen},
		api.NoteClose:   {client, (*visit).isToStay, (*visit).takeClose},
		api.NoteCall:    {client, (*visit).isToStay, (*visit).takeCall},
		api.NoteBeat:    {client, (*visit).isHere, (*visit).takeBeat},
		api.NoteResume:  {client, (*visit).isHere, (*visit).takeResume},
		api.NoteWatch:   {client, (*visit).isHere, (*visit).takeWatch},
		api.NoteUnwatch: {client, (*visit).isHere, (*visit).takeUnwatch},
		api.NoteTook:    {client, (*visit).isHere, (*visit).takeTook},
	}
}

// come does what the note asks for, if whoever sent it may send such.
func (v *visit) come() {
	r, known := rows()[v.note.Kind]
	if !known || r.from != v.senderAt(v.from) {
		return
	}
	if r.from == client && !v.enters() {
		return
	}
	if r.needs(v) {
		r.take(v)
	}
}

// always: nothing is asked of such a note that has not been asked before.
func (v *visit) always() bool { return true }

// canBePlayed tells of entries whether a machine would play them.
func (v *visit) canBePlayed() bool { return !anyOfNoView(v.note.Entries) }

// canBeThawed tells of a full transfer whether it brings the machine that it speaks of.
func (v *visit) canBeThawed() bool {
	_, isOne := thawed(v.note.State, v.note.Stamp)
	return isOne
}

func (v *visit) takeView() { v.do(v.core.Adopt(v.note.View)) }

func (v *visit) takeByCore() { v.do(v.core.Take(v.from, v.note)) }
