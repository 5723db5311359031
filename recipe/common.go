package recipe

import (
	"slices"

	"herald/api"
)

// common is what all kinds of jobs have in common.
type common struct {
	api.Job
	held   api.Held
	isLeft bool
	open   *request // nil: none is open
	next   func()   // what is done once there is a node at Base
	watch  *watch   // nil: there is none
	late   []watch  // those that are to be given up as soon as their ids are known
	wishes []api.Wish
}

// request is one that is open.
type request struct {
	ops    []api.Op
	number int             // 0: it was not called as yet
	gives  func(api.Reply) // what is taken from an answer that is OK, by a machine that was left meanwhile, too
	then   func(api.Reply) // what is done behind that, whatever the answer is
}

func (c *common) shared() *common { return c }

func (c *common) wish(w api.Wish) { c.wishes = append(c.wishes, w) }

// wished is what was wished for in the call that goes on.
func (c *common) wished() []api.Wish {
	all := c.wishes
	c.wishes = nil
	return all
}

func (c *common) wishDo(ops []api.Op) { c.wish(api.Wish{Kind: api.WishDo, Ops: copiedOps(ops)}) }

// askFor asks these ops, for something that their answer gives.
func (c *common) askFor(gives, then func(api.Reply), ops ...api.Op) {
	c.open = &request{ops: ops, gives: gives, then: then}
	c.wishDo(ops)
}

// ask asks these ops, whose answer gives nothing by itself.
func (c *common) ask(then func(api.Reply), ops ...api.Op) {
	c.askFor(func(api.Reply) {}, then, ops...)
}

// askBase asks for a node at Base, and then does what is next.
func (c *common) askBase(next func()) {
	c.next = next
	c.ask(c.hearBase, api.Op{Kind: api.OpMake, Place: c.Base, Data: c.baseData()})
}

func (c *common) baseData() string {
	if c.Kind == api.JobCounter {
		return "0"
	}
	return ""
}

func (c *common) hearBase(r api.Reply) {
	switch r.Code {
	case api.OK, api.ErrExists, api.ErrRoot:
		c.next()
	default:
		c.lose(r.Code)
	}
}

// hearCall learns the number of the open request.
func (c *common) hearCall(number int, ops []api.Op) {
	if c.open != nil && c.open.number == 0 && slices.Equal(ops, c.open.ops) {
		c.open.number = number
	}
}

// hearReply hears the open request's answer.
func (c *common) hearReply(number int, r api.Reply) {
	if c.open == nil || c.open.number == 0 || c.open.number != number {
		return
	}
	r.Code = c.codeOf(r)
	if r.Code == api.OK {
		c.open.gives(r)
	}
	then := c.open.then
	c.open = nil
	then(r)
}

// codeOf is the code of an answer; one that can't be an answer to what was asked is refused.
func (c *common) codeOf(r api.Reply) api.Errno {
	if r.Code != api.OK {
		return r.Code
	}
	if len(r.Results) != len(c.open.ops) {
		return api.ErrJob
	}
	if isCounted(c.open.ops[0]) && !c.isRivalPlace(r.Results[0].Place) {
		return api.ErrJob
	}
	return api.OK
}

// hearEnd hears that the session ends, or is over: nothing of it can be given up any more.
func (c *common) hearEnd() {
	c.watch, c.late = nil, nil
	switch {
	case c.held.Phase == api.HeldOut || c.held.Phase == api.HeldDone:
	case c.isLeft:
		c.open, c.held.Place = nil, ""
		c.finish()
	default:
		c.lose(api.ErrSession)
	}
}

// lose gives up, by a code.
func (c *common) lose(code api.Errno) {
	c.open = nil
	c.giveUp()
	c.held.Phase, c.held.Code, c.held.Place = api.HeldOut, code, ""
}

// leave is done with the job as soon as it can be, which quit knows how.
func (c *common) leave(quit func()) {
	if c.isLeft {
		return
	}
	c.isLeft = true
	switch c.held.Phase {
	case api.HeldOut:
		c.finish()
	case api.HeldAsking, api.HeldWaiting, api.HeldIn:
		c.held.Phase = api.HeldAsking
		c.giveUp()
		if c.open != nil {
			c.open.then = func(api.Reply) { quit() }
			return
		}
		quit()
	}
}

func isCounted(o api.Op) bool { return o.Flags&api.FlagCounted != 0 }

func (c *common) finish() { c.held.Phase = api.HeldDone }
