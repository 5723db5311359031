package recipe_test

import (
	"fmt"
	"testing"

	"herald/api"
)

func takerOf(t *testing.T, size int) *life {
	t.Helper()
	l := born(t, api.Job{Kind: api.JobTake, Base: "/l", Size: size})
	begun(l)
	l.asked(refusal(2, api.ErrExists), does(lists("/l")))
	return l
}

// takes are the ops by which an item is taken.
func takes(number int) api.Wish {
	at := fmt.Sprintf("/l/item-%05d", number)
	return does(gets(at), drops(at))
}

func got(stamp int, data string) api.Reply {
	return results(stamp, api.Result{Place: "/l/got", Data: data, Made: 1, Changed: 1}, api.Result{Place: "/l/dropped", Data: "no"})
}

// TestTaker: P20.11, each time the first item; done at the time that Size says.
func TestTaker(t *testing.T) {
	for size := 1; size <= 8; size++ {
		l := takerOf(t, size)
		var values []string
		for i := 1; i <= size; i++ {
			l.asked(kids(10*i, fmt.Sprintf("item-%05d", i+2), fmt.Sprintf("item-%05d", i+1)), takes(i+1))
			data := fmt.Sprint("data ", i)
			values = append(values, data)
			at := fmt.Sprintf("/l/item-%05d", i+1)
			if i == size {
				l.asked(got(10*i+1, data))
				l.shows(api.HeldDone, at, 10*i+1, api.OK, values...)
				l.begins()
			} else {
				l.asked(got(10*i+1, data), does(lists("/l")))
				l.shows(api.HeldAsking, at, 10*i+1, api.OK, values...)
			}
		}
	}
}

// TestTakerWaits: P20.11, without items it waits, by one watch all the time; with the first item it looks again.
func TestTakerWaits(t *testing.T) {
	l := takerOf(t, 2)
	l.asked(kids(5, "other", "item-1"), watches("/l", api.WatchKids))
	l.shows(api.HeldWaiting, "", 0, api.OK)
	l.sees(5, bare("/l", "/l/other"))
	l.hears(taken(event(6, makesNode("/l/lock-00001", "", 1))))
	l.shows(api.HeldWaiting, "", 0, api.OK)
	l.hears(taken(event(7, makesNode("/l/item-00001", "", 1))), does(lists("/l")))
	l.shows(api.HeldWaiting, "", 0, api.OK)
	// While the request is open, items turn the picture and nothing else.
	l.hears(taken(event(8, makesNode("/l/item-00002", "", 1))))
	l.hears(taken(event(9, dropsNode("/l/item-00001", 1))))
	l.asked(kids(9, "item-00002"), takes(2))
	l.hears(taken(event(10, makesNode("/l/item-00003", "", 1))))
	l.shows(api.HeldWaiting, "", 0, api.OK)
	l.asked(got(11, "x"), does(lists("/l")))
	l.shows(api.HeldAsking, "/l/item-00002", 11, api.OK, "x")
	l.hears(taken(event(11, dropsNode("/l/item-00002", 1))))
	l.hears(taken(event(12, makesNode("/l/item-00004", "", 1))))
	l.asked(kids(12, "item-00003", "item-00004"), takes(3))
	l.shows(api.HeldAsking, "/l/item-00002", 11, api.OK, "x")
	l.asked(got(13, "y"), unwatches(1))
	l.shows(api.HeldDone, "/l/item-00003", 13, api.OK, "x", "y")
}

// TestTakerGrantedLate: P20.11, an item that is there when the watch is granted is looked for at once.
func TestTakerGrantedLate(t *testing.T) {
	l := takerOf(t, 1)
	l.asked(kids(5), watches("/l", api.WatchKids))
	l.sees(6, bare("/l", "/l/item-00003"), does(lists("/l")))
	l.shows(api.HeldWaiting, "", 0, api.OK)
	l = takerOf(t, 1)
	l.asked(kids(5), watches("/l", api.WatchKids))
	l.sees(6, nil)
	l.hears(taken(marker(8, api.Part{Id: 1, Shot: shotOf(8, "/l", api.WatchKids, bare("/l", "/l/item-00003")...)})), does(lists("/l")))
	l.asked(refusal(9, api.ErrNoNode), unwatches(1))
	l.shows(api.HeldOut, "", 0, api.ErrNoNode)
}

// emptied is a taker whose OpList is open behind a picture of the stamp 8 with such nodes.
func emptied(t *testing.T, nodes ...string) *life {
	t.Helper()
	l := takerOf(t, 1)
	l.asked(kids(5), watches("/l", api.WatchKids))
	l.sees(6, bare("/l"))
	l.hears(taken(event(7, makesNode("/l/item-00001", "", 1))), does(lists("/l")))
	l.hears(taken(marker(8, api.Part{Id: 1, Shot: shotOf(8, "/l", api.WatchKids, bare(nodes...)...)})))
	return l
}

// TestTakerFindsNone: P20.11, a list without items: asked again, if the picture is a later one and has one; it is not watched anew.
func TestTakerFindsNone(t *testing.T) {
	for stamp := 5; stamp <= 11; stamp++ {
		for _, nodes := range [][]string{{"/l"}, {"/l", "/l/other"}, nil} {
			l := emptied(t, nodes...)
			l.asked(kids(stamp))
			l.shows(api.HeldWaiting, "", 0, api.OK)
		}
		l := emptied(t, "/l", "/l/item-00002")
		if stamp < 8 {
			l.asked(kids(stamp), does(lists("/l")))
		} else {
			l.asked(kids(stamp))
			// Whatever turns the picture then: as long as it has an item, it is looked for.
			l.hears(taken(event(9, makesNode("/l/other", "", 1))), does(lists("/l")))
		}
		l.shows(api.HeldWaiting, "", 0, api.OK)
	}
}

// TestTakerRefusedEvent: P20.11, an event that Fold refuses leaves the picture as it was; the machine looks at it all the same.
func TestTakerRefusedEvent(t *testing.T) {
	l := emptied(t, "/l", "/l/item-00002")
	l.asked(kids(8))
	l.hears(taken(event(9, makesNode("/l/item-00002", "", 1))), does(lists("/l")))
}

// TestTakerBackFromTaking: P20.11, the phase behind a list without items is waiting, also behind an item that was taken.
func TestTakerBackFromTaking(t *testing.T) {
	l := takerOf(t, 2)
	l.asked(kids(5, "item-00001"), takes(1))
	l.asked(got(6, "x"), does(lists("/l")))
	l.shows(api.HeldAsking, "/l/item-00001", 6, api.OK, "x")
	l.asked(kids(7), watches("/l", api.WatchKids))
	l.shows(api.HeldWaiting, "/l/item-00001", 6, api.OK, "x")
}

// TestTakerQuicker: P20.11, an item that another one has taken.
func TestTakerQuicker(t *testing.T) {
	l := takerOf(t, 2)
	l.asked(kids(5, "item-00001"), takes(1))
	l.asked(refusal(6, api.ErrNoNode), does(lists("/l")))
	l.shows(api.HeldAsking, "", 0, api.OK)
	l.asked(kids(7, "item-00004"), takes(4))
	l.asked(got(8, "x"), does(lists("/l")))
	l.shows(api.HeldAsking, "/l/item-00004", 8, api.OK, "x")
}

// TestTakerAnswers: P20.11, each answer with each code, with a watch and without one.
func TestTakerAnswers(t *testing.T) {
	for _, code := range allCodes() {
		if code == api.OK {
			continue
		}
		l := takerOf(t, 2)
		l.asked(refusal(5, code))
		l.shows(api.HeldOut, "", 0, code)

		l = emptied(t, "/l")
		l.asked(refusal(9, code), unwatches(1))
		l.shows(api.HeldOut, "", 0, code)

		for _, hasWatch := range []bool{false, true} {
			l := born(t, jobOf(api.JobTake))
			way, wishes := taking, []api.Wish(nil)
			if hasWatch {
				way, wishes = wokenTaking, []api.Wish{unwatches(1)}
			}
			way(l)
			before := l.m.Sight()
			if code == api.ErrNoNode {
				l.asked(refusal(9, code), does(lists("/l")))
				l.shows(before.Phase, "", 0, api.OK)
				continue
			}
			l.asked(refusal(9, code), wishes...)
			l.shows(api.HeldOut, "", 0, code)
		}

		l = born(t, jobOf(api.JobTake))
		waitingKnown(l)
		l.hears(refused(1, "/l", api.WatchKids, code))
		l.shows(api.HeldOut, "", 0, code)
		begun(l)
		l.asked(refusal(9, api.ErrExists), does(lists("/l")))
		l.asked(kids(10), watches("/l", api.WatchKids))
	}
}

// TestTakerLeft: P20.4, what was taken when it is left counts; the watch is given up at once.
func TestTakerLeft(t *testing.T) {
	l := takerOf(t, 3)
	l.asked(kids(5, "item-00001"), takes(1))
	l.calls()
	l.leaves()
	l.answers(got(6, "x"))
	l.shows(api.HeldDone, "/l/item-00001", 6, api.OK, "x")

	l = takerOf(t, 3)
	l.asked(kids(5), watches("/l", api.WatchKids))
	l.sees(5, bare("/l"))
	l.leaves(unwatches(1))
	l.shows(api.HeldDone, "", 0, api.OK)
	l.hears(taken(event(7, makesNode("/l/item-00001", "", 1))))
}
