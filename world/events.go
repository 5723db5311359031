package world

import (
	"herald/api"
	"herald/node"
	"herald/note"
)

// clientsBehind is the number behind which the addresses of clients begin.
const clientsBehind = 100

// service is the address of the service that chooses views.
const service = 0

// owner is whose an address is.
type owner int

const (
	nobody owner = iota
	theService
	running // a node
	stopped // a node that does not run
	someClient
)

func (w *World) ownerOf(address int) owner {
	s := w.servers[address]
	switch {
	case address == service:
		return theService
	case s != nil && s.node != nil:
		return running
	case s != nil:
		return stopped
	case w.clients[address] != nil:
		return someClient
	}
	return nobody
}

// start starts a node over its disk.
func (w *World) start(address int) api.Errno {
	s := w.servers[address]
	started, disk, messages, code := node.Open(address, w.rules, s.disk)
	if code != api.OK {
		return code
	}
	*s = server{node: started}
	w.nodeDid(s, disk, messages)
	return api.OK
}

// nodeDid is the end of each event of a node. What it wrote is on its disk ahead of all else, as others act on what it sends.
func (w *World) nodeDid(s *server, written []byte, messages []api.Message) {
	s.disk = append(s.disk, written...)
	w.line.Send(messages...)
	w.learn(s.node.Played())
}

// learn puts behind the history what is new of what a node has played.
func (w *World) learn(played []api.Entry) {
	for _, e := range played {
		if e.Stamp == len(w.history)+1 {
			w.history = append(w.history, e)
		}
	}
}

// clientDid is the end of each call of a client.
func (t *turn) clientDid(address int, told []api.Told, messages []api.Message) {
	t.line.Send(messages...)
	for _, x := range told {
		x.Step, x.Client = t.number, address-clientsBehind
		t.told = append(t.told, x)
	}
}

// arrive lets a message come to where it goes.
func (t *turn) arrive(number int) api.Errno {
	m, code := t.line.Take(number)
	if code != api.OK {
		return code
	}
	switch t.ownerOf(m.To) {
	case theService:
		t.askService(m)
	case running:
		s := t.servers[m.To]
		written, messages := s.node.Take(m)
		t.nodeDid(s, written, messages)
	case someClient:
		told, messages := t.clients[m.To].Take(m)
		t.clientDid(m.To, told, messages)
	case stopped:
		fallthrough
	case nobody: // it is lost
	}
	return api.OK
}

// askService hands the service a message, if it comes from somebody of this world and is whole.
func (t *turn) askService(m api.Message) {
	from := t.ownerOf(m.From)
	if from == nobody || from == theService {
		return
	}
	asked, code := note.Open(m)
	if code != api.OK {
		return
	}
	for _, n := range t.service.Take(m.From, asked) {
		if answer, code := note.Message(service, m.From, n); code == api.OK {
			t.line.Send(answer)
		}
	}
}

// tickNode: a unit of time goes by at a node that runs.
func (t *turn) tickNode(s *server) api.Errno {
	written, messages := s.node.Tick()
	t.nodeDid(s, written, messages)
	return api.OK
}

// tickClient: a unit of time goes by at a client.
func (t *turn) tickClient(address int) {
	told, messages := t.clients[address].Tick()
	t.clientDid(address, told, messages)
}
