package world_test

import (
	"bytes"
	"slices"
	"strings"
	"testing"

	"herald/api"
	"herald/journal"
	"herald/world"
)

// crowd is a world with so many messages in flight, each from another address, of which no two are alike.
func crowd(t *testing.T, count int) (*world.World, []api.Message) {
	t.Helper()
	w := begun(t, rulesOf(2, 1))
	for i := range count {
		w.Post(messageOf(t, 200+i, 300+i, api.Note{Kind: api.NoteOpen, Session: 1 + i}))
	}
	_, messages := w.Flight()
	return w, messages
}

// counted is the place of a number among so many, by steps of that size.
func counted(number, count int) int {
	rest := number - number/count*count
	for rest < 0 {
		rest += count
	}
	return rest
}

// TestCountedRound: P17.4, the message of which a step speaks, whatever A is.
func TestCountedRound(t *testing.T) {
	for count := 1; count <= 5; count++ {
		for _, a := range append(ends(), -12, -11, -10, -9, -8, -7, -6, -5, -4, -3, 4, 5, 6, 7, 8, 9, 10, 11, 12) {
			at := counted(a, count)
			for _, s := range []api.Step{delivers(a), drops(a)} {
				w, messages := crowd(t, count)
				plays(t, w, s)
				_, got := w.Flight()
				is(t, "P17.4: what is in flight behind "+tell(s), got, slices.Delete(messages, at, at+1))
			}
			w, messages := crowd(t, count)
			plays(t, w, doubles(a))
			numbers, got := w.Flight()
			is(t, "P17.4: what is in flight behind a double", got, append(messages, messages[at]))
			is(t, "P17.4: the number of a double", numbers[count], count+1)
			w, messages = crowd(t, count)
			plays(t, w, spoils(a, 3, 7))
			_, got = w.Flight()
			messages[at].Bytes = turned(messages[at].Bytes, 3, 7)
			is(t, "P17.4: what is in flight behind a spoiling", got, messages)
			refuses(t, w, withins(a, 0), api.ErrStep)
		}
	}
}

func turned(text string, at int, by byte) string {
	data := []byte(text)
	data[at] ^= by
	return string(data)
}

// TestNoMessage: P17.4, what speaks of a message is refused where there is none, whatever A and B are.
func TestNoMessage(t *testing.T) {
	w := begun(t, rulesOf(1, 1))
	for _, number := range ends() {
		for _, kind := range []int{api.StepDeliver, api.StepDrop, api.StepDouble, api.StepWithin} {
			refuses(t, w, stepOf(kind, number, number, number), api.ErrFlight)
		}
		refuses(t, w, spoils(number, number, 1), api.ErrFlight)
		refuses(t, w, spoils(number, number, 255), api.ErrFlight)
		refuses(t, w, spoils(number, number, 0), api.ErrStep)
		refuses(t, w, spoils(number, number, 256), api.ErrStep)
	}
}

// TestSpoil: P17.4, the byte that is turned, whatever B is, and by how much; and what is refused: C, then no message, then one that was spoilt.
func TestSpoil(t *testing.T) {
	_, messages := crowd(t, 2)
	size := len(messages[1].Bytes)
	numbers := ends()
	for b := -2*size - 1; b <= 2*size+1; b++ {
		numbers = append(numbers, b)
	}
	for _, b := range numbers {
		for _, c := range []int{1, 2, 128, 255} {
			w, messages := crowd(t, 2)
			plays(t, w, spoils(1, b, c))
			messages[1].Bytes = turned(messages[1].Bytes, counted(b, size), byte(c))
			_, got := w.Flight()
			is(t, "P17.4: what is in flight behind a spoiling", got, messages)
			refuses(t, w, spoils(1, b, c), api.ErrSpoilt)
			refuses(t, w, spoils(1, b, c+255), api.ErrStep)
			plays(t, w, doubles(1), spoils(0, b, c))
			refuses(t, w, spoils(2, b, c), api.ErrSpoilt)
		}
	}
	for _, c := range append(ends(), 0, 1, 255, 256) {
		w, _ := crowd(t, 1)
		if c < 1 || c > 255 {
			refuses(t, w, spoils(0, 0, c), api.ErrStep)
		} else {
			plays(t, w, spoils(0, 0, c))
			refuses(t, w, spoils(0, 0, c), api.ErrSpoilt)
		}
	}
}

// TestSpoilNothing: W1, a message without bytes, which nobody of a world sends, has none to be turned.
func TestSpoilNothing(t *testing.T) {
	for _, b := range ends() {
		w := begun(t, rulesOf(1, 1))
		w.Post(api.Message{From: 1})
		refuses(t, w, spoils(0, b, 1), api.ErrArg)
		refuses(t, w, spoils(0, b, 0), api.ErrStep)
		plays(t, w, delivers(0))
	}
}

// TestTick: P17.4, who ticks by A: the service, nodes, clients by their addresses, and nobody else.
func TestTick(t *testing.T) {
	for nodes := 1; nodes <= 5; nodes++ {
		for clients := 1; clients <= 6; clients++ {
			for _, a := range append(ends(), 4, 5, 6, 7, 99, 100, 101, 102, 103, 104, 105, 106, 107, 201) {
				w := begun(t, rulesOf(nodes, clients))
				isNode, isClient := a >= 1 && a <= nodes, a >= 101 && a <= 100+clients
				if !isNode && !isClient && a != 0 {
					refuses(t, w, ticks(a), api.ErrStep)
					continue
				}
				told := plays(t, w, ticks(a))
				is(t, "P17.4: what a tick tells", told, []api.Told(nil))
				var want [][3]int
				if a != 0 {
					want = [][3]int{{a, 0, api.NoteAsk}}
				}
				is(t, "P17.4: what a tick sends", flying(t, w), want)
				if isNode {
					plays(t, w, crashes(a))
					refuses(t, w, ticks(a), api.ErrDown)
				}
			}
		}
	}
}

// TestNodesSteps: P17.4, StepCrash, StepSave and StepRestart of nodes that run, that do not and that are not there.
func TestNodesSteps(t *testing.T) {
	for nodes := 1; nodes <= 5; nodes++ {
		for _, a := range append(ends(), 4, 5, 6, 100, 101) {
			w := begun(t, rulesOf(nodes, 2))
			if a < 1 || a > nodes {
				for _, s := range []api.Step{crashes(a), saves(a), restarts(a)} {
					refuses(t, w, s, api.ErrStep)
				}
				continue
			}
			refuses(t, w, restarts(a), api.ErrStep)
			plays(t, w, saves(a))
			disk, _ := w.Disk(a)
			if said, records, size := journal.Recover(disk); records != 1 || size != len(disk) || said.State == "" {
				t.Errorf("P17.4: a save writes %d records of %d bytes", records, len(disk))
			}
			plays(t, w, crashes(a))
			for _, s := range []api.Step{crashes(a), saves(a), ticks(a)} {
				refuses(t, w, s, api.ErrDown)
			}
			for i := 1; i <= nodes; i++ {
				got, _ := w.Sight(i)
				is(t, "P17.7: whether a node runs", got.Up, i != a)
			}
			after, _ := w.Disk(a)
			is(t, "P17.4: the disk of a node that has stopped", after, disk)
			plays(t, w, restarts(a))
			refuses(t, w, restarts(a), api.ErrStep)
			got, _ := w.Sight(a)
			is(t, "P17.7: whether a node runs", got.Up, true)
		}
	}
}

// TestRestartRefused: P17.4, node.Open's error, if the disk were one that it refuses; and the node does not run, as before.
func TestRestartRefused(t *testing.T) {
	w := begun(t, rulesOf(2, 1))
	plays(t, w, crashes(2))
	bad, _ := journal.Encode(1, api.Record{Kind: api.RecordSave, State: "no machine"})
	w.Lay(2, bad)
	refuses(t, w, restarts(2), api.ErrThaw)
	refuses(t, w, ticks(2), api.ErrDown)
	w.Lay(2, nil)
	plays(t, w, restarts(2))
	w.Lay(1, bad) // of a node that runs the disk is only written
	plays(t, w, ticks(1), crashes(1))
	refuses(t, w, restarts(1), api.ErrThaw)
}

// within is a world of one node, to which a request is under way; and what the node would write for it.
func within(t *testing.T) (w *world.World, disk, written []byte) {
	t.Helper()
	make := func() *world.World {
		w := begun(t, rulesOf(1, 1))
		plays(t, w, begins(1), calms(3), watches(1, "/", api.WatchKids), calms(2), does(1, makes("/a", "x"), makes("/b", "y")))
		return w
	}
	w = make()
	disk, _ = w.Disk(1)
	other := make()
	plays(t, other, delivers(0))
	written, _ = other.Disk(1)
	return w, disk, written[len(disk):]
}

// TestWithin: P17.4, a node that stops behind each byte of what it writes, counted round; nothing else of the event is left, and the start says what the whole records do.
func TestWithin(t *testing.T) {
	_, _, written := within(t)
	numbers := ends()
	for b := -len(written) - 3; b <= 2*len(written)+3; b++ {
		numbers = append(numbers, b)
	}
	for _, b := range numbers {
		w, disk, _ := within(t)
		history := w.History()
		told := plays(t, w, withins(-1, b))
		is(t, "P17.4: what StepWithin tells", told, []api.Told(nil))
		is(t, "P17.4: what is in flight behind StepWithin", flying(t, w), [][3]int(nil))
		is(t, "P17.4: the history behind StepWithin", w.History(), history)
		want := slices.Concat(disk, written[:counted(b, len(written)+1)])
		shows(t, w, 1, api.Sight{}, want, api.Shot{})
		refuses(t, w, withins(0, b), api.ErrFlight)
		refuses(t, w, ticks(1), api.ErrDown)
		plays(t, w, restarts(1))
		said, _, _ := journal.Recover(want)
		got, _ := w.Sight(1)
		if got.Last != said.Stamp+len(said.Entries) || got.Commit != got.Last {
			t.Errorf("P17.2: behind %d bytes a start shows %+v", counted(b, len(written)+1), got)
		}
		is(t, "P17.6: the history behind a start", len(w.History()), got.Commit)
		plays(t, w, calms(4))
		is(t, "P17.9: the history in the end", len(w.History()), 2)
	}
}

// TestWithinElsewhere: P17.4, StepWithin of a message to the service, a client, a node that does not run or nobody is refused, and the message stays.
func TestWithinElsewhere(t *testing.T) {
	for _, to := range append(ends(), 0, 1, 2, 3, 4, 6, 100, 101, 102, 107) {
		w := begun(t, rulesOf(3, 1))
		plays(t, w, crashes(2))
		w.Post(messageOf(t, 101, to, api.Note{Kind: api.NoteOpen, Session: 1}))
		if to != 1 && to != 3 {
			refuses(t, w, withins(0, 0), api.ErrStep)
			continue
		}
		plays(t, w, withins(0, -1))
		is(t, "P17.4: in flight", flying(t, w), [][3]int(nil))
		shows(t, w, to, api.Sight{}, nil, api.Shot{})
	}
}

// TestWithinSpoilt: P17.4, a node that takes a spoilt message stops all the same, and writes nothing.
func TestWithinSpoilt(t *testing.T) {
	w, disk, _ := within(t)
	plays(t, w, spoils(0, 11, 4), withins(0, -1))
	shows(t, w, 1, api.Sight{}, disk, api.Shot{})
}

// TestPromote: P17.4, the service's own errors, and the views.
func TestPromote(t *testing.T) {
	w := begun(t, rulesOf(3, 1))
	refuses(t, w, promotes(2, 1), api.ErrUnready)
	refuses(t, w, promotes(9, 9), api.ErrUnready)
	plays(t, w, calms(4))
	for _, number := range append(ends(), 4) {
		if number < 1 || number > 2 {
			refuses(t, w, promotes(number, 1), api.ErrView)
		}
		if number < 0 || number > 3 || number == 1 {
			refuses(t, w, promotes(1, number), api.ErrView)
		}
	}
	refuses(t, w, promotes(101, 1), api.ErrView)
	told := plays(t, w, promotes(2, 3))
	is(t, "P17.5: what StepPromote tells", told, []api.Told(nil))
	is(t, "P17.4: what StepPromote sends", flying(t, w), [][3]int(nil))
	is(t, "P17.7: Views", w.Views(), []api.View{{Num: 1, Primary: 1, Backup: 2}, {Num: 2, Primary: 2, Backup: 3}})
	refuses(t, w, promotes(2, 1), api.ErrUnready)
	plays(t, w, calms(4), promotes(3, 0))
	is(t, "P17.7: Views", w.Views(), []api.View{{Num: 1, Primary: 1, Backup: 2}, {Num: 2, Primary: 2, Backup: 3}, {Num: 3, Primary: 3}})
}

// TestViewsEnd: P17.4 and P12.2, there is room for so many views and no more.
func TestViewsEnd(t *testing.T) {
	w := begun(t, rulesOf(1, 1))
	for range api.MaxSteps {
		plays(t, w, calms(1), promotes(1, 0))
	}
	plays(t, w, calms(1))
	refuses(t, w, promotes(1, 0), api.ErrNumber)
	is(t, "P17.7: how many Views there are", len(w.Views()), api.MaxSteps+1)
}

// TestClientsSteps: P17.4, the steps of a client: no such client comes ahead of the client's own errors; A is its number, not its address.
func TestClientsSteps(t *testing.T) {
	tooMany := slices.Repeat([]api.Op{gets("/")}, api.MaxOps+1)
	long := api.Op{Kind: api.OpGet, Place: strings.Repeat("p", api.MaxRaw+1)}
	for clients := 1; clients <= 6; clients++ {
		w := begun(t, rulesOf(2, clients))
		for _, a := range append(ends(), 4, 5, 6, 7, 100, 101, 102, -99, -100) {
			want := func(code api.Errno) api.Errno {
				if a < 1 || a > clients {
					return api.ErrStep
				}
				return code
			}
			refuses(t, w, does(a, gets("/")), want(api.ErrClient))
			refuses(t, w, does(a, tooMany...), want(api.ErrLong))
			refuses(t, w, does(a, long), want(api.ErrLong))
			refuses(t, w, does(a, api.Op{Kind: -1}), want(api.ErrArg))
			refuses(t, w, watches(a, "/", 3), want(api.ErrClient))
			refuses(t, w, watches(a, "no place", 9), want(api.ErrPlace))
			refuses(t, w, watches(a, strings.Repeat("/a", 100), 9), want(api.ErrPlace))
			refuses(t, w, watches(a, "/", 4), want(api.ErrArg))
			refuses(t, w, unwatches(a, 1), want(api.ErrClient))
			refuses(t, w, finishes(a), want(api.ErrClient))
			if want(api.OK) != api.OK {
				refuses(t, w, begins(a), api.ErrStep)
				continue
			}
			is(t, "P17.5: what Begin tells", plays(t, w, begins(a))[0].Client, a)
			refuses(t, w, begins(a), api.ErrClient)
			plays(t, w, finishes(a))
		}
	}
}

// TestClientsLife: P17.2, P17.4 and P17.5, what the steps of a client hand on, tell and send.
func TestClientsLife(t *testing.T) {
	w := begun(t, rulesOf(1, 2))
	plays(t, w, calms(2))
	tells := func(s api.Step, step int, want ...api.Told) {
		t.Helper()
		for i := range want {
			want[i].Step, want[i].Client, want[i].Session = step, 2, 2
		}
		is(t, "P17.5: what the step "+tell(s)+" tells", plays(t, w, s), want)
	}
	tells(begins(2), 1, api.Told{Kind: api.ToldBegin})
	is(t, "P17.4: what Begin sends", flying(t, w), [][3]int{{102, 1, api.NoteOpen}})
	tells(delivers(0), 2)
	tells(delivers(0), 3, api.Told{Kind: api.ToldBegun})
	tells(delivers(0), 4)
	tells(delivers(0), 5)
	w1 := api.Watch{Id: 1, Place: "/a", Kind: api.WatchSubtree}
	tells(watches(2, "/a", api.WatchSubtree), 6, api.Told{Kind: api.ToldWatch, Watch: w1})
	is(t, "P17.4: what Watch sends", flying(t, w), [][3]int{{102, 1, api.NoteWatch}})
	tells(delivers(0), 7)
	granted := w1
	granted.From = 1
	shot := api.Shot{Stamp: 1, Place: "/a", Kind: api.WatchSubtree}
	tells(delivers(0), 8, api.Told{Kind: api.ToldWatched, Stamp: 1, Watch: granted, Part: api.Part{Id: 1, Shot: shot}})
	tells(calms(1), 9)
	ops := []api.Op{makes("/a", "x"), gets("/a")}
	tells(does(2, ops...), 10, api.Told{Kind: api.ToldCall, Request: 1, Ops: ops})
	refuses(t, w, does(2, ops...), api.ErrClient)
	result := api.Result{Place: "/a", Made: 2, Changed: 2}
	read := result
	read.Data = "x"
	change := api.Tagged{Change: api.Change{Kind: api.ChangeMade, Place: "/a", Data: "x"}, Tags: []int{1}}
	tells(calms(1), 12,
		api.Told{Kind: api.ToldReply, Request: 1, Stamp: 2, Reply: api.Reply{Stamp: 2, Results: []api.Result{result, read}}},
		api.Told{Kind: api.ToldItem, Stamp: 2, Item: api.Item{Stamp: 2, Changes: []api.Tagged{change}}})
	tells(unwatches(2, 1), 13, api.Told{Kind: api.ToldUnwatch, Watch: w1})
	is(t, "P17.4: what Unwatch sends", flying(t, w), [][3]int{{102, 1, api.NoteUnwatch}})
	refuses(t, w, unwatches(2, 1), api.ErrClient)
	tells(finishes(2), 15, api.Told{Kind: api.ToldEnd})
	is(t, "P17.4: what End sends", flying(t, w), [][3]int{{102, 1, api.NoteUnwatch}, {102, 1, api.NoteClose}})
	tells(calms(1), 16, api.Told{Kind: api.ToldGone})
}

// TestKinds: P17.4, kinds that are none, whatever else the step has.
func TestKinds(t *testing.T) {
	w := begun(t, rulesOf(2, 1))
	plays(t, w, ticks(1))
	for _, kind := range append(ends(), 17, 18, 32, 255, 256, 257) {
		if kind >= 1 && kind <= 16 {
			continue
		}
		for _, a := range []int{-1, 0, 1, 101} {
			refuses(t, w, api.Step{Kind: kind, A: a, B: 1, C: 1, Place: "/", Ops: []api.Op{gets("/")}}, api.ErrStep)
		}
	}
}

// TestRefusedCounts: P17.4 and P17.5, a refused step counts, and changes nothing but the numbers of those behind it.
func TestRefusedCounts(t *testing.T) {
	for seed := range uint64(40) {
		c := chanceOf(seed, 173)
		rules := c.rules()
		all, few, g := begun(t, rules), begun(t, rules), againOf(rules)
		taken := 0
		for number := range 150 {
			s := c.anyStep(g)
			told, code := all.Step(s)
			if g.step(s); code != api.OK {
				continue
			}
			want, _ := few.Step(s)
			for i := range want {
				if want[i].Step != taken {
					t.Fatalf("P17.5: the step %d tells %s", taken, tell(want[i]))
				}
				want[i].Step = number
			}
			taken++
			is(t, "P17.5: what is told", told, want)
		}
		if is(t, "P17.4: what is left", sightOf(all), sightOf(few)); t.Failed() {
			t.Fatalf("seed %d", seed)
		}
	}
}

// TestWhatElse: P17.4, what a step's kind has no use for is not looked at.
func TestWhatElse(t *testing.T) {
	full := api.Step{A: 1, B: -7, C: 900, Place: "no place", Ops: make([]api.Op, 9)}
	w, v := begun(t, rulesOf(1, 1)), begun(t, rulesOf(1, 1))
	for _, s := range []api.Step{ticks(1), saves(1), crashes(1), restarts(1), begins(1), calms(1), finishes(1), delivers(1), ticks(1), doubles(1), drops(1)} {
		full.Kind, full.A = s.Kind, s.A
		is(t, "P17.5: what is told", plays(t, w, s), plays(t, v, full))
		is(t, "P17.4: what is left", sightOf(w), sightOf(v))
	}
}

// TestTwoWorlds: W2 and P17.4, worlds that are played in turns know nothing of one another.
func TestTwoWorlds(t *testing.T) {
	for seed := range uint64(30) {
		c := chanceOf(seed, 174)
		rules, others := c.rules(), c.rules()
		one, likewise, other := begun(t, rules), begun(t, rules), begun(t, others)
		g, h := againOf(rules), againOf(others)
		var steps []api.Step
		for range 120 {
			s := c.anyStep(g)
			steps = append(steps, s)
			g.stepsAlike(t, one, s)
			h.stepsAlike(t, other, c.anyStep(h))
		}
		for _, s := range steps {
			likewise.Step(s)
		}
		is(t, "W2: two worlds with the same steps", sightOf(one), sightOf(likewise))
		g.isLike(t, one)
		if h.isLike(t, other); t.Failed() {
			t.Fatalf("seed %d", seed)
		}
	}
}

// TestAsking: W2, what a world is asked in between changes nothing.
func TestAsking(t *testing.T) {
	for seed := range uint64(30) {
		c := chanceOf(seed, 175)
		rules := c.rules()
		asked, left, g := begun(t, rules), begun(t, rules), againOf(rules)
		for range 120 {
			s := c.anyStep(g)
			g.step(s)
			sightOf(asked)
			told, code := asked.Step(s)
			sightOf(asked)
			want, wantCode := left.Step(s)
			is(t, "W2: what is told", told, want)
			is(t, "W2: the code", code, wantCode)
		}
		if is(t, "W2: what is left", sightOf(asked), sightOf(left)); t.Failed() {
			t.Fatalf("seed %d", seed)
		}
	}
}

// TestHistoryBehindFailover: P17.6, entries come into the history in the order of their stamps, each once, whoever plays them, at starts too.
func TestHistoryBehindFailover(t *testing.T) {
	w := begun(t, rulesOf(2, 1))
	plays(t, w, begins(1), calms(6), does(1, makes("/a", "x")), calms(3), saves(1))
	first := w.History()
	is(t, "P17.6: the history's length", len(first), 2)
	plays(t, w, crashes(1), crashes(2), restarts(2), restarts(1), calms(3))
	is(t, "P17.6: the history behind starts", w.History(), first)
	plays(t, w, crashes(1), promotes(2, 0), calms(4), does(1, makes("/b", "y")), calms(4))
	second := w.History()
	if len(second) != 3 || second[2].View != 2 || second[2].Stamp != 3 {
		t.Errorf("P17.6: the history is %s", tell(second))
	}
	is(t, "P17.6: its beginning", second[:2], first)
	plays(t, w, restarts(1), promotes(2, 1), calms(6))
	is(t, "P17.6: the history behind the other has caught up", w.History(), second)
	a, _ := w.Disk(1)
	b, _ := w.Disk(2)
	if bytes.Equal(a, b) {
		t.Error("P17.2: both nodes have one disk")
	}
}
