package node

import (
	"slices"

	"herald/api"
	"herald/pair"
	"herald/state"
)

// record is a record of an act: its type tells what the server does at it.
type record interface {
	plain() api.Record
}

// anyRecord is a record at which nothing is to be done but to write it.
type anyRecord struct{ api.Record }

func (r anyRecord) plain() api.Record { return r.Record }

type (
	viewRecord   struct{ anyRecord }
	entryRecord  struct{ anyRecord }
	commitRecord struct{ anyRecord }
	resetRecord  struct{ anyRecord }
)

func recordOf(r api.Record) record {
	plain := anyRecord{r}
	switch r.Kind {
	case api.RecordView:
		return viewRecord{plain}
	case api.RecordEntry:
		return entryRecord{plain}
	case api.RecordCommit:
		return commitRecord{plain}
	case api.RecordReset:
		return resetRecord{plain}
	}
	return plain
}

// do does an act of the core: all its records ahead of its messages, which lean on them.
func (n *Node) do(act pair.Act) {
	var answers []api.Note
	for _, r := range act.Records {
		answers = append(answers, n.follow(recordOf(r))...)
	}
	for _, out := range act.Notes {
		n.send(out.To, out.Note)
	}
	for _, to := range act.Want {
		n.send(to, n.fullTransfer())
	}
	for _, answer := range answers {
		n.tellSession(answer)
	}
	n.forgetGone()
}

// follow writes a record and does what it says. It answers what the entries that are played at it answer to their sessions.
func (n *Node) follow(r record) []api.Note {
	n.write(r.plain())
	switch r := r.(type) {
	case viewRecord:
		n.hub.Clear()
		clear(n.heard)
	case entryRecord:
		n.open = append(n.open, r.Entry)
	case commitRecord:
		return n.playUpTo(r.Stamp)
	case resetRecord:
		machine, _ := state.Thaw(r.State)
		n.standOn(machine)
	}
	return nil
}

// playUpTo plays the open entries up to a stamp; they are not open any more.
func (n *Node) playUpTo(stamp int) []api.Note {
	var answers []api.Note
	for _, e := range n.open {
		if e.Stamp > stamp {
			break
		}
		answers = append(answers, n.play(e))
	}
	n.open = slices.Delete(n.open, 0, len(answers))
	return answers
}

// play plays an entry, hands its changes on, and tells what it answers.
func (n *Node) play(e api.Entry) api.Note {
	reply, changes, _ := n.machine.Apply(e)
	n.hub.Commit(e.Stamp, changes, n.machine)
	sessions, _, _ := n.hub.Sessions()
	for _, session := range sessions {
		if !n.isOpen(session) {
			n.hub.Drop(session)
		}
	}
	n.played = append(n.played, e)
	return answerTo(e, reply)
}

func answerTo(e api.Entry, reply api.Reply) api.Note {
	switch e.Kind {
	case api.EntryRequest:
		return api.Note{Kind: api.NoteAnswer, Session: e.Session, Request: e.Request, Reply: reply}
	case api.EntryOpen:
		return api.Note{Kind: api.NoteOpened, Session: e.Session, Code: reply.Code}
	}
	return api.Note{Kind: api.NoteGone, Session: e.Session}
}

// fullTransfer is all that a node needs that has nothing to go on from.
func (n *Node) fullTransfer() api.Note {
	return api.Note{Kind: api.NoteFull, View: n.viewNumber(), Stamp: n.core.Commit(), Of: n.viewAtCommit(), State: n.machine.Freeze()}
}

// viewNumber is the core's view with its number alone, as nearly all notes have it.
func (n *Node) viewNumber() api.View {
	return api.View{Num: n.core.View().Num}
}

// viewAtCommit is the view of the entry at the commit; if the log does not reach back to that, it is the floor.
func (n *Node) viewAtCommit() int {
	if e, code := n.core.Log().At(n.core.Commit()); code == api.OK {
		return e.View
	}
	_, of := n.core.Log().Floor()
	return of
}
