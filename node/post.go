package node

import (
	"herald/api"
	"herald/journal"
	"herald/note"
)

// post gathers what an event writes into the journal, and what it sends behind that.
type post struct {
	self    int
	number  int // of the journal's last record
	written []byte
	sent    []api.Message
}

// rewrite begins the journal anew, with the fewest records that say the same.
func (p *post) rewrite(said api.Saved) {
	p.written, p.number, _ = journal.Compact(said)
}

// write puts a record behind the others, as the journal's next one.
func (p *post) write(r api.Record) {
	data, code := journal.Encode(p.number+1, r)
	if code != api.OK {
		return
	}
	p.number++
	p.written = append(p.written, data...)
}

// send puts a message to an address behind the others.
func (p *post) send(to int, n api.Note) {
	m, code := note.Message(p.self, to, n)
	if code != api.OK {
		return
	}
	p.sent = append(p.sent, m)
}

// giveOut hands out all that was gathered; the next event begins with nothing.
func (p *post) giveOut() ([]byte, []api.Message) {
	written, sent := p.written, p.sent
	p.written, p.sent = nil, nil
	return written, sent
}
