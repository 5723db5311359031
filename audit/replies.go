package audit

import (
	"slices"

	"herald/api"
)

// owner is whose session a told thing speaks of: two clients with sessions of one number are two.
type owner struct{ client, session int }

func ownerOf(t api.Told) owner { return owner{t.Client, t.Session} }

// request is one of a session, whoever made it.
type request struct{ session, number int }

// call is a request as its client made it.
type call struct {
	ops        []api.Op
	isAnswered bool
}

// caller is what was told of a session's requests so far.
type caller struct {
	calls  map[int]call // by the requests' numbers
	newest int          // the number of the last one, as they rise
}

// replyAudit holds the told replies against those of the model.
type replyAudit struct {
	history []api.Entry
	replies []api.Reply     // the model's, one an entry
	first   map[request]int // where in the history a request stands first
	callers map[owner]*caller
}

func newReplyAudit(history []api.Entry) *replyAudit {
	a := &replyAudit{history: history, replies: modelled(history), first: map[request]int{}, callers: map[owner]*caller{}}
	for i, e := range slices.Backward(history) {
		if e.Kind == api.EntryRequest {
			a.first[request{e.Session, e.Request}] = i
		}
	}
	return a
}

// replyLooks are the looks at told things, by their kinds; all others are not looked at.
func replyLooks() map[int]func(*replyAudit, api.Told) {
	return map[int]func(*replyAudit, api.Told){
		api.ToldCall:  (*replyAudit).lookAtCall,
		api.ToldReply: (*replyAudit).lookAtReply,
	}
}

func (a *replyAudit) lookAtCall(t api.Told) {
	c := a.callerOf(t)
	must(len(c.calls) == 0 || t.Request > c.newest, api.ErrTwice)
	c.calls[t.Request] = call{ops: t.Ops}
	c.newest = t.Request
}

func (a *replyAudit) lookAtReply(t api.Told) {
	c := a.callerOf(t)
	made, isMade := c.calls[t.Request]
	must(isMade, api.ErrOrder)
	must(!made.isAnswered, api.ErrTwice)
	at, isThere := a.first[request{t.Session, t.Request}]
	must(isThere, api.ErrReply)
	must(t.Stamp == t.Reply.Stamp && isSameReply(t.Reply, a.replies[at]), api.ErrReply)
	must(slices.Equal(made.ops, a.history[at].Ops), api.ErrReply)
	made.isAnswered = true
	c.calls[t.Request] = made
}

func (a *replyAudit) callerOf(t api.Told) *caller {
	c := a.callers[ownerOf(t)]
	if c == nil {
		c = &caller{calls: map[int]call{}}
		a.callers[ownerOf(t)] = c
	}
	return c
}

// mustStandOnce gives up, if the history has a request twice; what no open session asked was not done, and doesn't count.
func (a *replyAudit) mustStandOnce() {
	done := map[request]struct{}{}
	for i, e := range a.history {
		if e.Kind != api.EntryRequest || a.replies[i].Code == api.ErrSession {
			continue
		}
		asked := request{e.Session, e.Request}
		_, isDone := done[asked]
		must(!isDone, api.ErrTwice)
		done[asked] = struct{}{}
	}
}

func isSameReply(a, b api.Reply) bool {
	return a.Stamp == b.Stamp && a.Code == b.Code && a.At == b.At && slices.EqualFunc(a.Results, b.Results, isSameResult)
}

func isSameResult(a, b api.Result) bool {
	return a.Place == b.Place && a.Data == b.Data && a.Version == b.Version &&
		a.Made == b.Made && a.Changed == b.Changed && a.Owner == b.Owner && slices.Equal(a.Kids, b.Kids)
}
