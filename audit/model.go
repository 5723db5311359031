package audit

import (
	"herald/api"
	"herald/state"
)

// must gives up with an offence, if something isn't as it must be: the faces recover.
func must(isSo bool, offence api.Errno) {
	if !isSo {
		panic(offence)
	}
}

// offenceIn is the offence with which a look gave up; whatever else went wrong, nothing was found to be true.
func offenceIn(found any) api.Errno {
	if offence, isOffence := found.(api.Errno); isOffence {
		return offence
	}
	return api.ErrHistory
}

// player plays a history on a plain machine, entry by entry.
type player struct {
	machine *state.Machine
	view    int // of the entry that it played last
}

func newPlayer() *player { return &player{machine: state.New()} }

// play plays the next entry; it gives up, if that cannot follow.
func (p *player) play(e api.Entry) (api.Reply, []api.Change) {
	must(e.View >= p.view, api.ErrHistory)
	reply, changes, code := p.machine.Apply(e)
	must(code == api.OK, api.ErrHistory)
	p.view = e.View
	return reply, changes
}

// modelled has the reply of each entry of a history.
func modelled(history []api.Entry) []api.Reply {
	var replies []api.Reply
	p := newPlayer()
	for _, e := range history {
		reply, _ := p.play(e)
		replies = append(replies, reply)
	}
	return replies
}
