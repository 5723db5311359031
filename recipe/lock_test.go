package recipe_test

import (
	"testing"

	"herald/api"
)

const lock3 = "/l/lock-00003"

func lockBorn(t *testing.T) *life { return born(t, jobOf(api.JobLock)) }

// TestLock: P20.6, a lock that waits for two ahead of it, one behind the other, and is in.
func TestLock(t *testing.T) {
	l := lockBorn(t)
	begun(l)
	l.asked(made(2, "/l"), does(makes("/l/lock-", "x", brief|counted)))
	l.shows(api.HeldAsking, "", 0, api.OK)
	l.asked(made(4, lock3), does(lists("/l")))
	l.shows(api.HeldWaiting, lock3, 0, api.OK)
	l.asked(kids(5, "lock-00000", "lock-00002", "lock-00003", "lock-00004"), watches("/l/lock-00002", api.WatchNode))
	l.sees(5, seen("/l/lock-00002", ""))
	l.shows(api.HeldWaiting, lock3, 0, api.OK)
	l.hears(taken(event(7, dropsNode("/l/lock-00002", 1))), unwatches(1), does(lists("/l")))
	l.shows(api.HeldWaiting, lock3, 0, api.OK)
	l.asked(kids(8, "lock-00000", "lock-00003", "lock-00004"), watches("/l/lock-00000", api.WatchNode))
	// It is gone already when the watch is granted.
	l.sees(10, nil, unwatches(2), does(lists("/l")))
	l.asked(kids(11, "lock-00003", "lock-00004"))
	l.shows(api.HeldIn, lock3, 11, api.OK)
}

// TestLockAlone: P20.6, a lock without anybody ahead of it.
func TestLockAlone(t *testing.T) {
	for _, names := range [][]string{{"lock-00003"}, {"lock-00003", "lock-00004"}, {"lock-00009", "lock-00003"}} {
		l := lockBorn(t)
		entered(l)
		l.asked(kids(6, names...))
		l.shows(api.HeldIn, lock3, 6, api.OK)
	}
}

// TestLockSees: P20.6, items turn the picture: as long as there is a node, nothing is done.
func TestLockSees(t *testing.T) {
	at := two(api.JobLock)
	for _, item := range []api.Item{
		event(8, setsNode(at, "z", 1, 1)), event(8, dropsNode(at, 1), makesNode(at, "", 1)), event(8, dropsNode(at, 2)), event(8, makesNode(at, "", 1)), event(6, dropsNode(at, 1)),
		marker(8, api.Part{Id: 1, Shot: shotOf(8, at, api.WatchNode, seen(at, "z")...)}), marker(8, api.Part{Id: 2, Shot: shotOf(8, at, api.WatchNode)}), event(8, dropsNode(own(api.JobLock), 1)),
	} {
		l := lockBorn(t)
		waitingSeeing(l)
		l.hears(taken(item))
		l.shows(api.HeldWaiting, lock3, 0, api.OK)
		l.hears(taken(event(9, dropsNode(at, 1))), unwatches(1), does(lists("/l")))
		l.shows(api.HeldWaiting, lock3, 0, api.OK)
	}
	for _, item := range []api.Item{
		event(8, dropsNode(at, 1)), event(8, setsNode(at, "z", 1, 1), dropsNode(at, 1)), event(8, dropsNode(at, 1, 2)), marker(8, api.Part{Id: 1, Shot: shotOf(8, at, api.WatchNode)}),
	} {
		l := lockBorn(t)
		waitingSeeing(l)
		l.hears(taken(item), unwatches(1), does(lists("/l")))
		l.hears(taken(item))
		l.shows(api.HeldWaiting, lock3, 0, api.OK)
	}
}

// TestLockIsIn: P20.6, a lock that is in hears nothing more but the end.
func TestLockIsIn(t *testing.T) {
	l := lockBorn(t)
	in(l)
	l.hears(taken(event(12, dropsNode(lock3, 1))))
	l.hears(taken(marker(13, api.Part{Id: 1, Shot: shotOf(13, two(api.JobLock), api.WatchNode)})))
	l.hears(refused(1, two(api.JobLock), api.WatchNode, api.ErrFull))
	l.shows(api.HeldIn, lock3, 9, api.OK)
}

// TestLockAnswers: P20.6, each answer with each code.
func TestLockAnswers(t *testing.T) {
	for _, code := range allCodes() {
		if code == api.OK {
			continue
		}
		l := lockBorn(t)
		basedCalled(l)
		l.answers(refusal(5, code))
		l.shows(api.HeldOut, "", 0, code)

		for _, way := range []func(l *life){entered, looking} {
			l = lockBorn(t)
			way(l)
			var drop []api.Wish
			if code != api.ErrNoNode && code != api.ErrSession {
				drop = append(drop, does(drops(lock3)))
			}
			l.asked(refusal(9, code), drop...)
			l.shows(api.HeldOut, "", 0, code)
		}
	}
}

// TestLockWithoutNode: P20.6, a lock whose node is not in the list is lost by ErrNoNode, and drops nothing.
func TestLockWithoutNode(t *testing.T) {
	for _, way := range []func(l *life){entered, looking} {
		for _, names := range [][]string{nil, {}, {"lock-00002"}, {"lock-00004"}, {"lock-00001", "lock-00002", "lock-00004"}, {"lock-0003", "lock-000003", "vote-00003"}} {
			l := lockBorn(t)
			way(l)
			l.asked(kids(6, names...))
			l.shows(api.HeldOut, "", 0, api.ErrNoNode)
		}
	}
}

// TestLockLost: a lock that is lost while it waits gives its watch up and drops its node, whose answer is not waited for; and it begins again.
func TestLockLost(t *testing.T) {
	l := lockBorn(t)
	waitingKnown(l)
	l.hears(refused(1, two(api.JobLock), api.WatchNode, api.ErrPlace), does(drops(lock3)))
	l.shows(api.HeldOut, "", 0, api.ErrPlace)
	l.calls()
	l.answers(results(9, api.Result{Place: lock3}))
	l.shows(api.HeldOut, "", 0, api.ErrPlace)
	begun(l)
	// The drop is called and answered only now.
	l.hears(called(20, drops(lock3)))
	l.hears(answered(20, refusal(10, api.ErrFull)))
	l.shows(api.HeldAsking, "", 0, api.OK)
	l.asked(refusal(11, api.ErrExists), does(ownOp(l.job)))
	l.asked(made(12, "/l/lock-00004"), does(lists("/l")))
	l.asked(kids(13, "lock-00004"))
	l.shows(api.HeldIn, "/l/lock-00004", 13, api.OK)
}

// TestLockLeft: P20.4, a lock that is left while it asks for its node drops it as soon as it knows it; and does not look.
func TestLockLeft(t *testing.T) {
	l := lockBorn(t)
	basedCalled(l)
	l.leaves()
	l.shows(api.HeldAsking, "", 0, api.OK)
	l.answers(made(5, lock3), does(drops(lock3)))
	l.shows(api.HeldAsking, lock3, 0, api.OK)
	l.asked(refusal(7, api.ErrNoNode))
	l.shows(api.HeldDone, "", 7, api.OK)

	// Left while it looks: it does not come in.
	l = lockBorn(t)
	entered(l)
	l.calls()
	l.leaves()
	l.answers(kids(6, "lock-00003"), does(drops(lock3)))
	l.shows(api.HeldAsking, lock3, 0, api.OK)
	// Nor does it watch.
	l = lockBorn(t)
	entered(l)
	l.leaves()
	l.shows(api.HeldAsking, lock3, 0, api.OK)
	l.asked(kids(6, "lock-00001", "lock-00003"), does(drops(lock3)))
	l.shows(api.HeldAsking, lock3, 0, api.OK)
	l.asked(results(8, api.Result{}))
	l.shows(api.HeldDone, "", 8, api.OK)
}
