package audit_test

import (
	"slices"
	"testing"

	"herald/api"
	"herald/audit"
)

// listed is a history in which the request 2 has a result with every field, and kids.
func listed() []api.Entry {
	return story(opens(16), asks(16, 1, makesBrief("/a", "x"), makes("/b", "y")), asks(16, 2, gets("/a"), lists("/")), asks(16, 3, makes("/b", ""), gets("/")), asks(16, 4, sets("/b", "z"), makes("/b", "")))
}

func repliesAre(t *testing.T, history []api.Entry, cases []caseOf) {
	t.Helper()
	holds(t, "P19.2", audit.Replies, history, cases)
}

// request is a told thing with another number.
func requestOf(t api.Told, number int) api.Told {
	t.Request = number
	return t
}

// TestReplyExamples: the chapter's table.
func TestReplyExamples(t *testing.T) {
	h := shortStory()
	call, reply := called(h, 2), heard(h, 2)
	version := changed(reply, func(x *api.Told) { x.Reply.Results[0].Version = 5 })
	repliesAre(t, h, []caseOf{
		{"a call and its reply", []api.Told{call, reply}, api.OK, 0},
		{"the reply ahead of the call", []api.Told{reply, call}, api.ErrOrder, 0},
		{"a reply with another version", []api.Told{call, version}, api.ErrReply, 1},
		{"a reply twice", []api.Told{call, reply, reply}, api.ErrTwice, 2},
	})
}

// TestCalls: P19.2, a request that rises, stays and falls, in sessions of one and of several clients.
func TestCalls(t *testing.T) {
	h := listed()
	call := func(number int) api.Told { return requestOf(called(h, 2), number) }
	repliesAre(t, h, []caseOf{
		{"nothing", nil, api.OK, 0},
		{"requests that rise", []api.Told{call(1), call(2), call(4), call(most)}, api.OK, 0},
		{"a request that stays", []api.Told{call(1), call(1)}, api.ErrTwice, 1},
		{"a request that falls", []api.Told{call(1), call(3), call(2)}, api.ErrTwice, 2},
		{"a request that falls to the first", []api.Told{call(2), call(3), call(2)}, api.ErrTwice, 2},
		{"a request that falls below all", []api.Told{call(2), call(3), call(1), call(4)}, api.ErrTwice, 2},
		{"the first of two that fall", []api.Told{call(3), call(2), call(1)}, api.ErrTwice, 1},
		{"numbers that are none, rising", []api.Told{call(-5), call(-4), call(0), call(1)}, api.OK, 0},
		{"zero twice", []api.Told{call(0), call(0)}, api.ErrTwice, 1},
		{"a negative one twice", []api.Told{call(-1), call(-1)}, api.ErrTwice, 1},
		{"a negative one that falls", []api.Told{call(-1), call(-2)}, api.ErrTwice, 1},
		{"of another client", []api.Told{call(1), of(2, 16, call(1))}, api.OK, 0},
		{"of another session", []api.Told{call(2), of(1, 32, call(1))}, api.OK, 0},
		{"of the client of that number", []api.Told{of(16, 1, call(2)), call(1)}, api.OK, 0},
		{"of each of two clients twice", []api.Told{call(2), of(2, 16, call(1)), of(2, 16, call(2)), of(2, 16, call(2))}, api.ErrTwice, 3},
		{"with replies between", []api.Told{call(1), heard(h, 2), call(1)}, api.ErrTwice, 2},
		{"behind the session's end", []api.Told{call(1), told(api.ToldEnd), told(api.ToldGone), told(api.ToldBegin), told(api.ToldBegun), call(1)}, api.ErrTwice, 5},
		{"a request that never comes into the history", []api.Told{call(1), call(77)}, api.OK, 0},
	})
}

// TestReplyOrder: P19.2, replies without, ahead of and behind their calls, and of two clients with sessions of one number.
func TestReplyOrder(t *testing.T) {
	h := listed()
	call, reply, second := called(h, 2), heard(h, 2), called(h, 3)
	repliesAre(t, h, []caseOf{
		{"all that was asked and answered", []api.Told{called(h, 2), heard(h, 2), called(h, 3), heard(h, 3), called(h, 4), heard(h, 4), called(h, 5), heard(h, 5)}, api.OK, 0},
		{"all asked first, and answered in any order", []api.Told{called(h, 2), called(h, 3), called(h, 4), called(h, 5), heard(h, 4), heard(h, 2), heard(h, 5), heard(h, 3)}, api.OK, 0},
		{"a call without a reply", []api.Told{call, second, heard(h, 3)}, api.OK, 0},
		{"a reply without a call", []api.Told{reply}, api.ErrOrder, 0},
		{"a reply to another request", []api.Told{second, reply}, api.ErrOrder, 1},
		{"a reply between", []api.Told{call, heard(h, 3), reply}, api.ErrOrder, 1},
		{"of another client's call", []api.Told{of(2, 16, call), reply}, api.ErrOrder, 1},
		{"to another client", []api.Told{call, of(2, 16, reply)}, api.ErrOrder, 1},
		{"to both clients that called", []api.Told{call, of(2, 16, call), of(2, 16, reply), reply}, api.OK, 0},
		{"of another session's call", []api.Told{of(1, 32, call), reply}, api.ErrOrder, 1},
		{"a reply twice", []api.Told{call, reply, reply}, api.ErrTwice, 2},
		{"a reply twice, later", []api.Told{call, reply, second, told(api.ToldGone), reply}, api.ErrTwice, 4},
		{"a reply twice to one of two", []api.Told{call, of(2, 16, call), of(2, 16, reply), reply, of(2, 16, reply)}, api.ErrTwice, 4},
	})
}

// TestWhichReplyOffence: P19.2, two offences at one told thing: which one is told; and of two told things the first.
func TestWhichReplyOffence(t *testing.T) {
	h := listed()
	call, reply := called(h, 2), heard(h, 2)
	wrong := changed(reply, func(x *api.Told) { x.Reply.Code = api.ErrRoot })
	unknown := requestOf(call, 9)
	repliesAre(t, h, []caseOf{
		{"a wrong reply without a call", []api.Told{wrong}, api.ErrOrder, 0},
		{"a reply to what the history does not have, without a call", []api.Told{requestOf(reply, 9)}, api.ErrOrder, 0},
		{"a second reply that is wrong", []api.Told{call, reply, wrong}, api.ErrTwice, 2},
		{"a second reply that is wrong behind a wrong one", []api.Told{call, wrong, wrong}, api.ErrReply, 1},
		{"a wrong reply to what the history does not have", []api.Told{unknown, requestOf(wrong, 9)}, api.ErrReply, 1},
		{"the first of several", []api.Told{told(api.ToldGone), call, wrong, call, reply, requestOf(reply, 9)}, api.ErrReply, 2},
	})
}

// TestRepliesThatDiffer: P19.2, a reply that differs from the model's in one field alone, whichever that is.
func TestRepliesThatDiffer(t *testing.T) {
	h := listed()
	for stamp := 2; stamp <= 5; stamp++ {
		call, reply := called(h, stamp), heard(h, stamp)
		for _, other := range twisted(reply.Reply) {
			wrong := reply
			wrong.Reply = other
			together := wrong
			together.Stamp = other.Stamp
			for _, list := range [][]api.Told{{call, wrong}, {call, together}} {
				if code, at := audit.Replies(h, list); code != api.ErrReply || at != 1 {
					t.Errorf("P19.2: with the reply %s in the place of %s: %d, %d", tell(other), tell(reply.Reply), code, at)
				}
			}
		}
		for _, n := range append(ends(), stamp-1, stamp+1) {
			if n == stamp {
				continue
			}
			if code, at := audit.Replies(h, []api.Told{call, changed(reply, func(x *api.Told) { x.Stamp = n })}); code != api.ErrReply || at != 1 {
				t.Errorf("P19.2: with the told stamp %d in the place of %d: %d, %d", n, stamp, code, at)
			}
		}
	}
}

// TestOpsThatDiffer: P19.2, a call whose ops are not those of the entry.
func TestOpsThatDiffer(t *testing.T) {
	h := listed()
	for stamp := 2; stamp <= 5; stamp++ {
		call, reply := called(h, stamp), heard(h, stamp)
		for _, ops := range twisted(call.Ops) {
			wrong := call
			wrong.Ops = ops
			if code, at := audit.Replies(h, []api.Told{wrong, reply}); code != api.ErrReply || at != 1 {
				t.Errorf("P19.2: with the ops %+v in the place of %+v: %d, %d", ops, call.Ops, code, at)
			}
			if code, at := audit.Replies(h, []api.Told{wrong}); code != api.OK || at != 0 {
				t.Errorf("P19.2: with the ops %+v alone: %d, %d", ops, code, at)
			}
		}
	}
	h = story(opens(16), asks(16, 1))
	none, empty := called(h, 2), called(h, 2)
	none.Ops, empty.Ops = nil, []api.Op{}
	for _, call := range []api.Told{none, empty} {
		repliesAre(t, h, []caseOf{{"a call without ops", []api.Told{call, heard(h, 2)}, api.OK, 0}})
	}
}

// TestNilAndEmpty: W5, lists that are nil and empty are the same.
func TestNilAndEmpty(t *testing.T) {
	h := listed()
	for stamp := 2; stamp <= 5; stamp++ {
		reply := heard(h, stamp)
		if reply.Reply.Results == nil {
			reply.Reply.Results = []api.Result{}
		}
		for i := range reply.Reply.Results {
			if reply.Reply.Results[i].Kids == nil {
				reply.Reply.Results[i].Kids = []string{}
			}
		}
		repliesAre(t, h, []caseOf{{"empty lists", []api.Told{called(h, stamp), reply}, api.OK, 0}})
	}
	repliesAre(t, []api.Entry{}, []caseOf{{"nothing told of no history", []api.Told{}, api.OK, 0}})
}

// TestOtherFields: P19.2, what a told thing has beside what is looked at does not matter.
func TestOtherFields(t *testing.T) {
	h := listed()
	call, reply := called(h, 3), heard(h, 3)
	full := changed(told(0), func(x *api.Told) {
		x.Step, x.Code, x.Stamp, x.Request = -7, api.ErrGone, 99, 1
		x.Watch = api.Watch{Id: 1, Place: "?", Kind: 9, From: -1}
		x.Item = api.Item{Stamp: -1, After: 7, Marker: true, Parts: []api.Part{{Id: 1}}, Changes: []api.Tagged{{}}}
		x.Part = api.Part{Id: 7, Shot: api.Shot{Stamp: -9}}
	})
	fullCall, fullReply := full, full
	fullCall.Kind, fullCall.Request, fullCall.Ops, fullCall.Reply = api.ToldCall, 2, call.Ops, api.Reply{Stamp: 8, Code: api.ErrRoot}
	fullReply.Kind, fullReply.Request, fullReply.Stamp, fullReply.Reply, fullReply.Ops = api.ToldReply, 2, 3, reply.Reply, []api.Op{{Kind: 9}}
	repliesAre(t, h, []caseOf{{"full ones", []api.Told{fullCall, fullReply}, api.OK, 0}})
	for _, kind := range append(ends(), 3, 4, 5, 6, 7, 8, 9, 10, 11) {
		if kind == api.ToldCall || kind == api.ToldReply {
			continue
		}
		full.Kind = kind
		repliesAre(t, h, []caseOf{
			{"kind " + tell(kind), []api.Told{full, full}, api.OK, 0},
			{"a call, the kind " + tell(kind) + ", a reply", []api.Told{call, full, reply}, api.OK, 0},
			{"the kind " + tell(kind) + " and a reply", []api.Told{full, reply}, api.ErrOrder, 1},
		})
	}
}

// TestRepliesWithoutEntry: P19.2, a reply to a request that the history does not have: of another session, of another number, or nothing that was asked.
func TestRepliesWithoutEntry(t *testing.T) {
	h := listed()
	call, reply := called(h, 2), heard(h, 2)
	repliesAre(t, h, []caseOf{
		{"of another number", []api.Told{requestOf(call, 7), requestOf(reply, 7)}, api.ErrReply, 1},
		{"of another session", []api.Told{of(1, 1, call), of(1, 1, reply)}, api.ErrReply, 1},
		{"of the number of an opening", []api.Told{requestOf(call, 0), requestOf(reply, 0)}, api.ErrReply, 1},
		{"of session and number changed about", []api.Told{requestOf(of(1, 1, call), 16), requestOf(of(1, 1, reply), 16)}, api.ErrReply, 1},
	})
	repliesAre(t, h[:1], []caseOf{{"of what comes later", []api.Told{call, reply}, api.ErrReply, 1}})
	repliesAre(t, nil, []caseOf{{"of no history", []api.Told{call, reply}, api.ErrReply, 1}})
	open := changed(told(api.ToldReply), func(x *api.Told) { x.Stamp, x.Reply = 1, api.Reply{Stamp: 1} })
	repliesAre(t, h, []caseOf{{"an opening is no request", []api.Told{told(api.ToldCall), open}, api.ErrReply, 1}})
}

// TestFirstEntry: P19.2, the reply is that to the first entry of the request; what follows comes behind all told things.
func TestFirstEntry(t *testing.T) {
	h := story(opens(16), asks(16, 1, makes("/a", "x")), asks(16, 2, makes("/b", "")), asks(16, 1, gets("/")), asks(16, 2, gets("/b")))
	call, reply := called(h, 2), heard(h, 2)
	later, second := heard(h, 4), heard(h, 5)
	repliesAre(t, h, []caseOf{
		{"the first entry's", []api.Told{call, reply}, api.ErrTwice, 2},
		{"the second entry's", []api.Told{call, later}, api.ErrReply, 1},
		{"with the second entry's ops", []api.Told{called(h, 4), reply}, api.ErrReply, 1},
		{"one that was kept", []api.Told{call, called(h, 3), second}, api.ErrTwice, 3},
		{"with the ops of the one that was not played", []api.Told{called(h, 5), second}, api.ErrReply, 1},
	})
	h = story(asks(16, 1, gets("/a")), opens(16), asks(16, 1, makes("/a", "x")))
	repliesAre(t, h, []caseOf{
		{"of no session at first: its own reply", []api.Told{called(h, 1), heard(h, 1)}, api.OK, 0},
		{"of no session at first: the reply to the later one", []api.Told{called(h, 3), heard(h, 3)}, api.ErrReply, 1},
	})
}

// TestRequestsThatStandTwice: P19.2, two entries of one request that the model did and did not answer with ErrSession, told behind all told things.
func TestRequestsThatStandTwice(t *testing.T) {
	ask := asks(16, 1, makes("/a", "x"))
	other := asks(16, 2, gets("/"))
	for _, c := range []struct {
		name    string
		history []api.Entry
		code    api.Errno
	}{
		{"once", story(opens(16), ask, other), api.OK},
		{"one that was kept", story(opens(16), ask, ask), api.ErrTwice},
		{"one that was kept, with other ops", story(opens(16), ask, asks(16, 1, gets("/"))), api.ErrTwice},
		{"one that is below the last", story(opens(16), ask, other, ask), api.ErrTwice},
		{"twice below the last", story(opens(16), other, ask, ask), api.ErrTwice},
		{"once below the last", story(opens(16), other, ask), api.OK},
		{"three times", story(opens(16), ask, ask, other, ask), api.ErrTwice},
		{"two requests twice", story(opens(16), ask, ask, other, other), api.ErrTwice},
		{"one that was refused by the tree", story(opens(16), asks(16, 1, gets("/x")), asks(16, 1, gets("/x"))), api.ErrTwice},
		{"of no session", story(ask, ask), api.OK},
		{"of no session at first", story(ask, opens(16), ask), api.OK},
		{"of no session in the end", story(opens(16), ask, closes(16), ask, ask), api.OK},
		{"of a session that was given up", story(opens(16), ask, expires(16), ask), api.OK},
		{"of no session between", story(ask, opens(16), ask, other, ask, closes(16), ask), api.ErrTwice},
		{"of a session that another one ended", story(opens(16), ask, opens(32), ask), api.OK},
		{"of two sessions", story(opens(16), opens(17), ask, asks(17, 1, gets("/"))), api.OK},
		{"of session and number changed about", story(opens(1), opens(2), asks(1, 2, gets("/")), asks(2, 1, gets("/"))), api.OK},
	} {
		for count := range 4 {
			list := slices.Repeat([]api.Told{told(api.ToldBegun)}, count)
			at := 0
			if c.code != api.OK {
				at = count
			}
			repliesAre(t, c.history, []caseOf{{c.name + ", behind " + tell(count), list, c.code, at}})
		}
	}
	h := story(opens(16), ask, ask)
	repliesAre(t, h, []caseOf{
		{"with what was asked and answered", []api.Told{called(h, 2), heard(h, 2)}, api.ErrTwice, 2},
		{"behind what offends", []api.Told{called(h, 2), heard(h, 2), called(h, 2), told(api.ToldGone)}, api.ErrTwice, 2},
		{"behind a wrong reply", []api.Told{called(h, 2), changed(heard(h, 2), func(x *api.Told) { x.Stamp = 9 }), told(api.ToldGone)}, api.ErrReply, 1},
	})
}
