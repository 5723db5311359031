package state

import (
	"strings"

	"herald/api"
)

// row says what an entry of one kind has, and what it does.
type row struct {
	asks bool // it has a Request and Ops; those of the other kinds have neither
	play func(*Machine, api.Entry) (api.Reply, []api.Change)
}

// rowOf is the row of a kind of entry; it plays nothing, if there is no such kind.
func rowOf(kind int) row {
	rows := [...]row{
		api.EntryRequest: {asks: true, play: (*Machine).playRequest},
		api.EntryOpen:    {play: (*Machine).playOpen},
		api.EntryClose:   {play: (*Machine).playEnd},
		api.EntryExpire:  {play: (*Machine).playEnd},
	}
	if kind < 0 || kind >= len(rows) {
		return row{}
	}
	return rows[kind]
}

// mayBe tells whether an entry may be, whatever its stamp is.
func mayBe(e api.Entry) bool {
	r := rowOf(e.Kind)
	if r.play == nil || !isNumber(e.View) || !isNumber(e.Session) {
		return false
	}
	if r.asks {
		return isNumber(e.Request)
	}
	return e.Request == 0 && len(e.Ops) == 0
}

// isNumber tells whether a view, a session or a request may have that number.
func isNumber(v int) bool {
	return 1 <= v && v <= api.MaxNumber
}

func (m *Machine) playOpen(e api.Entry) (api.Reply, []api.Change) {
	if _, isOpen := m.open[e.Session]; isOpen {
		return api.Reply{Stamp: e.Stamp}, nil
	}
	newest := &m.newest[e.Session%api.MaxSlots]
	if e.Session <= *newest {
		return api.Reply{Stamp: e.Stamp, Code: api.ErrOld}, nil
	}
	changes := m.end(*newest)
	*newest = e.Session
	m.open[e.Session] = lastRequest{}
	return api.Reply{Stamp: e.Stamp}, changes
}

func (m *Machine) playEnd(e api.Entry) (api.Reply, []api.Change) {
	if _, isOpen := m.open[e.Session]; !isOpen {
		return api.Reply{Stamp: e.Stamp, Code: api.ErrSession}, nil
	}
	return api.Reply{Stamp: e.Stamp}, m.end(e.Session)
}

func (m *Machine) playRequest(e api.Entry) (api.Reply, []api.Change) {
	kept, isOpen := m.open[e.Session]
	switch {
	case !isOpen:
		return api.Reply{Stamp: e.Stamp, Code: api.ErrSession}, nil
	case e.Request == kept.number:
		return copied(kept.reply), nil
	case e.Request < kept.number:
		return api.Reply{Stamp: e.Stamp, Code: api.ErrRequest}, nil
	}
	reply, changes := m.nodes.Play(e.Session, e.Stamp, e.Ops...)
	m.open[e.Session] = lastRequest{number: e.Request, reply: copied(reply)}
	return reply, changes
}

// end ends a session; one that is not open has nothing in the tree, so nothing goes.
func (m *Machine) end(session int) []api.Change {
	delete(m.open, session)
	return m.nodes.End(session)
}

// copied is a reply with lists and texts of its own.
func copied(reply api.Reply) api.Reply {
	var results []api.Result
	for _, r := range reply.Results {
		var kids []string
		for _, kid := range r.Kids {
			kids = append(kids, strings.Clone(kid))
		}
		r.Place, r.Data, r.Kids = strings.Clone(r.Place), strings.Clone(r.Data), kids
		results = append(results, r)
	}
	reply.Results = results
	return reply
}
