package node

import (
	"herald/api"
	"herald/fan"
	"herald/pair"
	"herald/state"
)

// isNone tells whether nobody opened the node.
func (n *Node) isNone() bool {
	return n == nil || n.core == nil
}

// mayBe tells whether a world can have these rules.
func mayBe(r api.Rules) bool {
	return isWithin(r.Nodes, 1, api.MaxPeers) && isWithin(r.Clients, 1, api.MaxClients) &&
		isWithin(r.Queue, 1, api.MaxQueue) && isWithin(r.Ring, 1, api.MaxRing) &&
		isWithin(r.Window, 1, api.MaxWindow) && isWithin(r.Lease, 0, api.MaxLease)
}

func isWithin(number, lowest, highest int) bool {
	return lowest <= number && number <= highest
}

// machineOf is the machine of which a journal speaks, ahead of the journal's entries.
func machineOf(said api.Saved) (*state.Machine, api.Errno) {
	if anyOfNoView(said.Entries) {
		return nil, api.ErrThaw
	}
	if said.State == "" && said.Stamp == 0 {
		return state.New(), api.OK
	}
	machine, isOne := thawed(said.State, said.Stamp)
	if !isOne {
		return nil, api.ErrThaw
	}
	return machine, api.OK
}

// anyOfNoView tells whether one of the entries is such as no machine plays, though it may be written and sent.
func anyOfNoView(entries []api.Entry) bool {
	for _, e := range entries {
		if e.View == 0 {
			return true
		}
	}
	return false
}

// thawed is the machine that a text tells of, if that has played all entries up to a stamp and none above.
func thawed(text string, stamp int) (*state.Machine, bool) {
	machine, code := state.Thaw(text)
	return machine, code == api.OK && machine.Last() == stamp
}

// standOn puts a machine in the place of all that the server knew of the history and of sessions.
func (n *Node) standOn(m *state.Machine) {
	n.machine = m
	n.hub, _ = fan.New(n.rules.Queue, n.rules.Ring, m.Last())
	n.open = nil
	n.heard = map[int]hearing{}
}

// begin is a server's first event: the journal is written anew, as what was torn at its end would stand in the way of what comes.
func (n *Node) begin(said api.Saved, act pair.Act) (written []byte, sent []api.Message) {
	defer func() { written, sent = n.giveOut() }()
	n.rewrite(said)
	n.open = said.Entries
	n.playUpTo(said.Commit)
	n.do(act)
	return
}
