package recipe

import (
	"slices"
	"strings"

	"herald/api"
	"herald/place"
)

// own is what locks, elections and barriers have in common: a node of its own, that goes with the session.
type own struct {
	common
	made int // the stamp at which the node was made
}

func (o *own) renew() { o.held = api.Held{Phase: api.HeldAsking} }

// enter asks for the node.
func (o *own) enter(then func(api.Reply)) {
	o.askFor(o.takeNode, then, api.Op{Kind: api.OpMake, Place: o.below(o.nodeName()), Data: o.Data, Flags: api.FlagBrief | api.FlagCounted})
}

func (o *own) takeNode(r api.Reply) {
	o.held.Place, o.made = strings.Clone(r.Results[0].Place), r.Results[0].Made
}

// waits tells whether it has its node, and may wait for its turn; else it is lost.
func (o *own) waits(r api.Reply) bool {
	if r.Code != api.OK {
		o.lose(r.Code)
		return false
	}
	o.held.Phase = api.HeldWaiting
	return true
}

func (o *own) comeIn(stamp int) { o.held.Phase, o.held.Stamp = api.HeldIn, stamp }

// isAmong tells whether its node is one of these.
func (o *own) isAmong(rivals []api.Seen) bool {
	return slices.ContainsFunc(rivals, func(n api.Seen) bool { return n.Place == o.held.Place })
}

// loseIfGone: a picture without its node tells nothing, if it is of a time at which the node was not made as yet.
func (o *own) loseIfGone(picture api.Shot) {
	if picture.Stamp >= o.made {
		o.lose(api.ErrNoNode)
	}
}

// lose drops the node, too, unless it is gone anyway.
func (o *own) lose(code api.Errno) {
	at := o.held.Place
	o.common.lose(code)
	if at != "" && code != api.ErrNoNode && code != api.ErrSession {
		o.wishDo([]api.Op{dropOf(at)})
	}
}

// quit drops the node, if there is one.
func (o *own) quit() {
	if o.held.Place == "" {
		o.finish()
		return
	}
	o.ask(o.hearDropped, dropOf(o.held.Place))
}

func (o *own) hearDropped(r api.Reply) {
	o.held.Place, o.held.Stamp = "", r.Stamp
	o.finish()
}

// ownName is the last name of its node.
func (o *own) ownName() string {
	name, _ := place.Name(o.held.Place)
	return name
}

func dropOf(at string) api.Op { return api.Op{Kind: api.OpDrop, Place: at, Version: -1} }
