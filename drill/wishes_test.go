package drill_test

import (
	"slices"
	"testing"

	"herald/api"
	"herald/drill"
)

func replied(step, client, session, request int, r api.Reply) api.Told {
	return api.Told{Step: step, Client: client, Kind: api.ToldReply, Session: session, Request: request, Stamp: r.Stamp, Reply: r}
}

// answer is the reply to one op.
func answer(stamp int, r api.Result) api.Reply {
	return api.Reply{Stamp: stamp, Results: []api.Result{r}}
}

// idle is a step in which nothing happens.
func idle() api.Step { return ticks(0) }

// steps tells how many steps the world of a drill has had, by a step of a client that tells its number; the next one has the number behind that.
func steps(t *testing.T, d *drill.Drill, client int) int {
	t.Helper()
	told := plays(t, d, watches(client, "/count", api.WatchNode))
	return told[0].Step + 1
}

// opened is a drill of one node whose clients have sessions, each of its own number; it has had as many steps as there are clients, and one more.
func opened(t *testing.T, clients int, jobs ...api.Job) *drill.Drill {
	t.Helper()
	d := begun(t, rulesOf(1, clients), jobs...)
	for k := 1; k <= clients; k++ {
		plays(t, d, begins(k))
	}
	plays(t, d, calms(4))
	return d
}

// TestTranscript: P21.2 and P21.3, a lock from its beginning to its end, each thing told and each number by hand.
func TestTranscript(t *testing.T) {
	d := begun(t, rulesOf(1, 2), jobOf(api.JobLock))
	node := makes("/l/lock-", "it", 3)
	tells(t, d, begins(1), api.OK, toldOf(0, 1, api.ToldBegin, 1))
	tells(t, d, idle(), api.OK)
	tells(t, d, calms(4), api.OK, toldOf(2, 1, api.ToldBegun, 1), called(3, 1, 1, 1, makes(base, "", 0)))
	stands(t, d, "asking", "out")
	tells(t, d, idle(), api.OK)
	tells(t, d, calms(1), api.OK, replied(5, 1, 1, 1, answer(2, api.Result{Place: base, Made: 2, Changed: 2})), called(6, 1, 1, 2, node))
	tells(t, d, delivers(0), api.OK)
	tells(t, d, delivers(0), api.OK, replied(8, 1, 1, 2, answer(3, api.Result{Place: "/l/lock-00000", Made: 3, Changed: 3, Owner: 1})), called(9, 1, 1, 3, lists(base)))
	stands(t, d, "waiting /l/lock-00000", "out")
	tells(t, d, calms(1), api.OK, replied(10, 1, 1, 3, answer(4, api.Result{Place: base, Made: 2, Changed: 2, Kids: []string{"lock-00000"}})))
	stands(t, d, "in /l/lock-00000 at 4", "out")
	tells(t, d, leaves(2), api.ErrDrill)
	tells(t, d, leaves(1), api.OK, called(11, 1, 1, 4, dropsAt("/l/lock-00000")))
	stands(t, d, "asking /l/lock-00000 at 4", "out")
	tells(t, d, leaves(1), api.OK)
	tells(t, d, calms(1), api.OK, replied(12, 1, 1, 4, answer(5, api.Result{Place: "/l/lock-00000"})))
	stands(t, d, "done at 5", "out")
	tells(t, d, finishes(1), api.OK, toldOf(13, 1, api.ToldEnd, 1))
	stands(t, d, "done at 5", "out")
	tells(t, d, calms(1), api.OK, toldOf(14, 1, api.ToldGone, 1))
	tells(t, d, begins(1), api.OK, toldOf(15, 1, api.ToldBegin, 17))
	tells(t, d, calms(3), api.OK, toldOf(16, 1, api.ToldBegun, 17))
	stands(t, d, "done at 5", "out")
}

// TestKinds: P21.2, a wish of each kind is done by its step, with all that it has; one of another kind by none, and is off the list.
func TestKinds(t *testing.T) {
	ops := []api.Op{makes("/a", "x", 3), {Kind: 7, Place: "/b", Data: "y", Version: 5, Flags: 9}}
	all := api.Wish{Ops: ops, Place: "/a/b", Watch: api.WatchKids, Id: 1}
	for kind := -2; kind <= 20; kind++ {
		d := opened(t, 2)
		plays(t, d, watches(2, "/w", api.WatchSubtree))
		w := all
		w.Kind = kind
		d.Want(2, w)
		switch kind {
		case api.WishDo:
			tells(t, d, idle(), api.OK, called(5, 2, 2, 1, ops...))
		case api.WishWatch:
			tells(t, d, idle(), api.OK, watched(5, 2, 2, 2, "/a/b", api.WatchKids))
		case api.WishUnwatch:
			tells(t, d, idle(), api.OK, unwatched(5, 2, 2, 1, "/w", api.WatchSubtree))
		default:
			tells(t, d, idle(), api.OK)
			tells(t, d, watches(1, "/", 1), api.OK, watched(5, 1, 1, 1, "/", 1))
			continue
		}
		tells(t, d, watches(1, "/", 1), api.OK, watched(6, 1, 1, 1, "/", 1))
	}
}

// TestRefusedForGood: P21.2, whatever else a wish is refused with, it is off the list, by one try; what stands behind it is tried next.
func TestRefusedForGood(t *testing.T) {
	long := make([]byte, api.MaxRaw+1)
	for _, w := range []api.Wish{
		toDo(make([]api.Op, api.MaxOps+1)...), toDo(makes(string(long), "", 0)), toDo(makes("/", string(long), 0)), toDo(api.Op{Kind: -1}), toDo(api.Op{Version: -2}),
		toWatch("", 1), toWatch("no place", 1), toWatch(string(long), 1), toWatch("/a", 0), toWatch("/a", 4), toWatch("/a", most),
	} {
		d := opened(t, 2)
		d.Want(1, w, w, toWatch("/a", 1), w)
		d.Want(2, toWatch("/b", 1), w)
		tells(t, d, idle(), api.OK, watched(6, 1, 1, 1, "/a", 1), watched(8, 2, 2, 1, "/b", 1))
		tells(t, d, watches(2, "/", 1), api.OK, watched(10, 2, 2, 2, "/", 1))
	}
	d := opened(t, 2)
	d.Want(1, api.Wish{}, api.Wish{Kind: 4}, toWatch("/a", 1), api.Wish{Kind: -1})
	d.Want(2, api.Wish{Kind: most}, toWatch("/b", 1))
	tells(t, d, idle(), api.OK, watched(4, 1, 1, 1, "/a", 1), watched(5, 2, 2, 1, "/b", 1))
	tells(t, d, watches(2, "/", 1), api.OK, watched(6, 2, 2, 2, "/", 1))
}

// TestNotForNow: P21.2, a wish that is refused with ErrClient or ErrFull stays the first one, so that nothing behind it is tried; the next client's turn comes.
func TestNotForNow(t *testing.T) {
	other := makes("/x", "", 0)
	for _, c := range []struct {
		what string
		wish api.Wish
		way  []api.Step // by which it comes to be not for now
		out  []api.Step // by which its time comes
		told func(step int) api.Told
	}{
		{"a request is open", toDo(gets("/")), []api.Step{does(1, other)}, []api.Step{calms(2)}, func(step int) api.Told { return called(step, 1, 1, 2, gets("/")) }},
		{"no session", toDo(gets("/")), []api.Step{finishes(1), calms(1)}, []api.Step{begins(1), calms(4)}, func(step int) api.Told { return called(step, 1, 17, 1, gets("/")) }},
		{"no session to watch", toWatch("/a", 2), []api.Step{finishes(1)}, []api.Step{begins(1), calms(4)}, func(step int) api.Told { return watched(step, 1, 17, 1, "/a", 2) }},
		{"four watches", toWatch("/a", 2), []api.Step{watches(1, "/", 1), watches(1, "/", 1), watches(1, "/", 1), watches(1, "/", 1), calms(4)}, []api.Step{unwatches(1, 3), calms(2)}, func(step int) api.Told { return watched(step, 1, 1, 5, "/a", 2) }},
		{"no such watch", toUnwatch(1), nil, []api.Step{watches(1, "/", 1)}, func(step int) api.Told { return unwatched(step, 1, 1, 1, "/", 1) }},
	} {
		d := opened(t, 2)
		plays(t, d, c.way...)
		before := steps(t, d, 2)
		d.Want(1, c.wish, toWatch("no place", 1))
		d.Want(2, toDo(other))
		tells(t, d, idle(), api.OK, called(before+2, 2, 2, 1, other))                 // behind it one more pass, in which client 1's first wish alone is tried
		tells(t, d, watches(2, "/b", 1), api.OK, watched(before+4, 2, 2, 2, "/b", 1)) // a pass in which nothing is done has one try
		tells(t, d, unwatches(2, 2), api.OK, unwatched(before+6, 2, 2, 2, "/b", 1))
		if t.Failed() {
			t.Fatal(c.what)
		}
		told := plays(t, d, c.out...)
		if last := told[len(told)-1]; !same(last, c.told(last.Step)) {
			t.Errorf("P21.2: %s: in the end %s is told", c.what, tell(last))
		}
		now := told[len(told)-1].Step
		tells(t, d, watches(2, "/b", 1), api.OK, watched(now+2, 2, 2, 3, "/b", 1)) // the wish behind it was tried, too
	}
}

// TestPasses: P21.2, a pass goes through the clients by number, and does of each all that it can; there are passes until one does nothing.
func TestPasses(t *testing.T) {
	d := opened(t, 4)
	a, b := gets("/a"), gets("/b")
	d.Want(4, toDo(a), toDo(b))
	d.Want(3, toWatch("/3", 3), toUnwatch(1), toDo(a), toUnwatch(1))
	d.Want(1, toDo(a), toDo(b), toWatch("/1", 1))
	d.Want(2, api.Wish{Kind: 9}, toWatch("/2", 2))
	d.Want(1, toUnwatch(7))
	tells(t, d, idle(), api.OK,
		called(6, 1, 1, 1, a),
		watched(8, 2, 2, 1, "/2", 2),
		watched(9, 3, 3, 1, "/3", 3), unwatched(10, 3, 3, 1, "/3", 3), called(11, 3, 3, 1, a),
		called(13, 4, 4, 1, a))
	// the second pass tries what is left of 1, 3 and 4, in 15 to 17
	tells(t, d, watches(2, "/", 1), api.OK, watched(18, 2, 2, 2, "/", 1)) // and one pass more, in 19 to 21
	tells(t, d, watches(2, "/", 1), api.OK, watched(22, 2, 2, 3, "/", 1))
}

// TestPassOfNothing: P21.2, a pass that only takes off what is of no kind has done something, so that one more comes.
func TestPassOfNothing(t *testing.T) {
	d := opened(t, 2)
	plays(t, d, does(1, gets("/")))
	d.Want(1, toDo(gets("/a")))
	d.Want(2, api.Wish{Kind: 4})
	plays(t, d, idle()) // 4; tries in 5 and 6
	tells(t, d, watches(2, "/", 1), api.OK, watched(7, 2, 2, 1, "/", 1))
}

// TestHeardAhead: P21.2, what a wish's step tells is heard ahead of the next wish's try: a watch that was asked for too late is given up in the same pass, ahead of the next client's turn.
func TestHeardAhead(t *testing.T) {
	d := opened(t, 2, jobOf(api.JobElect)) // 4: the call of Base
	for range 4 {
		plays(t, d, watches(1, "/", 1))
	}
	plays(t, d, calms(4), calms(4)) // the node is made, and the watch has no room
	stands(t, d, "waiting /l/vote-00000", "out")
	tells(t, d, leaves(1), api.OK)
	plays(t, d, unwatches(1, 2))
	d.Want(2, toWatch("/b", 1))
	before := plays(t, d, idle())[0].Step
	plays(t, d, does(2, gets("/")))
	d.Want(2, toDo(gets("/b")))
	told := plays(t, d, calms(2))
	for len(told) > 0 && told[0].Client == 2 && told[0].Kind != api.ToldCall { // what client 2 itself is told in the round
		told = told[1:]
	}
	if len(told) != 4 || told[0].Step < before {
		t.Fatalf("told %s", tell(told))
	}
	now := told[0].Step
	is(t, "P21.2: what wishes tell", told, []api.Told{
		watched(now, 1, 1, 5, base, api.WatchSubtree), called(now+1, 1, 1, 3, dropsAt("/l/vote-00000")), unwatched(now+2, 1, 1, 5, base, api.WatchSubtree),
		called(now+3, 2, 2, 2, gets("/b")),
	})
	plays(t, d, calms(2))
	stands(t, d, "done at 6", "out")
}

// TestBegunBehind: P21.2, what Begin answers at a ToldBegun stands behind the wishes that the client has.
func TestBegunBehind(t *testing.T) {
	d := begun(t, rulesOf(1, 1), jobOf(api.JobTake))
	d.Want(1, toWatch("/a", 1), toDo(gets("/a")))
	plays(t, d, begins(1))
	told := plays(t, d, calms(4))
	now := told[1].Step
	is(t, "P21.2: told", told, []api.Told{toldOf(now-1, 1, api.ToldBegun, 1), watched(now, 1, 1, 1, "/a", 1), called(now+1, 1, 1, 1, gets("/a"))})
	told = plays(t, d, calms(1))
	if len(told) == 0 || !same(told[len(told)-1].Ops, []api.Op{makes(base, "", 0)}) {
		t.Errorf("P21.2: what Begin answered is not done behind: %s", tell(told))
	}
}

// TestForgottenByEnd: P21.2, a session's end forgets the wishes of its client, and nobody else's.
func TestForgottenByEnd(t *testing.T) {
	d := opened(t, 3, jobOf(api.JobLock), jobOf(api.JobLock)) // 4, 5: the calls of Base
	d.Want(1, toDo(gets("/a")), toWatch("/a", 1))
	d.Want(2, toDo(gets("/b")), toWatch("/b", 1))
	tells(t, d, idle(), api.OK)
	tells(t, d, finishes(1), api.OK, toldOf(9, 1, api.ToldEnd, 1)) // in 10 client 2's wish alone is tried
	tells(t, d, begins(1), api.OK, toldOf(11, 1, api.ToldBegin, 17))
	stands(t, d, "out by 81", "asking", "out")
	told := plays(t, d, calms(4))
	var calls []api.Told
	for _, k := range told {
		if k.Kind == api.ToldCall || k.Kind == api.ToldWatch {
			calls = append(calls, k)
		}
	}
	is(t, "P21.2: done behind the end", calls, []api.Told{called(14, 1, 17, 1, makes(base, "", 0)), called(15, 2, 2, 2, gets("/b")), watched(16, 2, 2, 1, "/b", 1)})
}

// TestForgottenByGone: P21.2, a session that is over forgets them likewise.
func TestForgottenByGone(t *testing.T) {
	rules := rulesOf(1, 2)
	rules.Lease = 2
	d := begun(t, rules, jobOf(api.JobLock), jobOf(api.JobLock))
	plays(t, d, begins(1), begins(2), calms(4))
	for range 4 {
		plays(t, d, calms(1))
	}
	for range 3 { // nobody hears of client 1
		plays(t, d, ticks(102), ticks(1))
		arrive(t, d, 101)
	}
	stands(t, d, "in /l/lock-00000 at 7", "in /l/lock-00001 at 10")
	plays(t, d, does(1, gets("/")), does(2, gets("/")))
	arrive(t, d, 101, 102)
	d.Want(1, toDo(gets("/a")), toWatch("/a", 1))
	d.Want(2, toDo(gets("/b")), toWatch("/b", 1))
	plays(t, d, ticks(101))
	told := arrive(t, d, 102)
	if len(told) != 1 || !same(told[0], toldOf(told[0].Step, 1, api.ToldGone, 1)) {
		t.Fatalf("told of a session that is over: %s", tell(told))
	}
	stands(t, d, "out at 7 by 81", "in /l/lock-00001 at 10")
	var calls []api.Told
	for _, k := range plays(t, d, begins(1), calms(4)) {
		if k.Kind == api.ToldCall || k.Kind == api.ToldWatch {
			k.Step = 0
			calls = append(calls, k)
		}
	}
	is(t, "P21.2: done behind the end", calls, []api.Told{called(0, 1, 17, 1, makes(base, "", 0)), called(0, 2, 2, 6, gets("/b")), watched(0, 2, 2, 2, "/b", 1)})
}

// arrive lets all messages in flight arrive, but those of some addresses, which are lost.
func arrive(t *testing.T, d *drill.Drill, but ...int) []api.Told {
	t.Helper()
	var all []api.Told
	for _, messages := d.World().Flight(); len(messages) > 0; _, messages = d.World().Flight() {
		s := delivers(0)
		if slices.Contains(but, messages[0].From) || slices.Contains(but, messages[0].To) {
			s = drops(0)
		}
		all = append(all, plays(t, d, s)...)
	}
	return all
}
