package recipe_test

import (
	"testing"

	"herald/api"
)

const vote3 = "/l/vote-00003"

// elected is an election whose node was made at the stamp 5, with its watch at the first picture.
func elected(t *testing.T, stamp int, nodes []api.Seen, want ...api.Wish) *life {
	t.Helper()
	l := born(t, jobOf(api.JobElect))
	entered(l)
	l.sees(stamp, nodes, want...)
	return l
}

// TestElection: P20.7, an election that waits, knows who leads, leads, and is lost when its node is gone.
func TestElection(t *testing.T) {
	l := born(t, jobOf(api.JobElect))
	begun(l)
	l.asked(refusal(2, api.ErrExists), does(makes("/l/vote-", "me", brief|counted)))
	l.asked(made(5, vote3), watches("/l", api.WatchSubtree))
	l.shows(api.HeldWaiting, vote3, 0, api.OK)
	l.sees(6, seen("/l", "base", "/l/vote-00001", "a", "/l/vote-00002", "b", vote3, "me"))
	l.shows(api.HeldWaiting, vote3, 0, api.OK, "a")
	l.hears(taken(event(7, dropsNode("/l/vote-00002", 1))))
	l.shows(api.HeldWaiting, vote3, 0, api.OK, "a")
	l.hears(taken(event(8, setsNode("/l/vote-00001", "c", 1, 1))))
	l.shows(api.HeldWaiting, vote3, 0, api.OK, "c")
	l.hears(taken(event(10, dropsNode("/l/vote-00001", 1))))
	l.shows(api.HeldIn, vote3, 10, api.OK, "me")
	l.hears(taken(event(11, makesNode("/l/vote-00004", "d", 1))))
	l.hears(taken(event(12, setsNode(vote3, "still me", 1, 1))))
	l.shows(api.HeldIn, vote3, 10, api.OK, "still me")
	l.hears(taken(event(14, dropsNode(vote3, 1))), unwatches(1))
	l.shows(api.HeldOut, "", 10, api.ErrNoNode, "still me")
}

// TestElectionAtOnce: P20.7, in at the first picture; its stamp is the picture's.
func TestElectionAtOnce(t *testing.T) {
	l := elected(t, 9, seen("/l", "", vote3, "me", "/l/vote-00004", "d"))
	l.shows(api.HeldIn, vote3, 9, api.OK, "me")
	l.hears(taken(marker(12, api.Part{Id: 1, Shot: shotOf(12, "/l", api.WatchSubtree, seen("/l", "", vote3, "me")...)})))
	l.shows(api.HeldIn, vote3, 9, api.OK, "me")
}

// TestElectionOverstepped: P20.7, one that is in stays in, also if a node comes ahead of it; who leads is told.
func TestElectionOverstepped(t *testing.T) {
	l := elected(t, 9, seen("/l", "", vote3, "me"))
	l.hears(taken(event(10, makesNode("/l/vote-00000", "a", 1))))
	l.shows(api.HeldIn, vote3, 9, api.OK, "a")
	l.hears(taken(event(11, dropsNode("/l/vote-00000", 1))))
	l.shows(api.HeldIn, vote3, 9, api.OK, "me")
}

// TestElectionTooEarly: P20.7, a picture of a time at which the node was not made as yet tells nothing; one of its stamp, or a later one, without it: lost by ErrNoNode.
func TestElectionTooEarly(t *testing.T) {
	for stamp := range 9 {
		for _, nodes := range [][]api.Seen{nil, seen("/l", ""), seen("/l", "", "/l/vote-00001", "a"), seen("/l", "", "/l/vote-00004", "a")} {
			if stamp < 5 {
				l := elected(t, stamp, nodes)
				l.shows(api.HeldWaiting, vote3, 0, api.OK)
				l.hears(taken(marker(6, api.Part{Id: 1, Shot: shotOf(6, "/l", api.WatchSubtree, seen("/l", "", vote3, "me")...)})))
				l.shows(api.HeldIn, vote3, 6, api.OK, "me")
				continue
			}
			l := elected(t, stamp, nodes, unwatches(1))
			l.shows(api.HeldOut, "", 0, api.ErrNoNode)
		}
	}
}

// TestElectionMade: P20.7, the stamp at which the node was made is the result's Made: neither Changed nor the reply's.
func TestElectionMade(t *testing.T) {
	for _, m := range []int{0, 1, 5, 7} {
		l := born(t, jobOf(api.JobElect))
		basedCalled(l)
		l.answers(results(90, api.Result{Place: vote3, Made: m, Changed: 95}), watches("/l", api.WatchSubtree))
		if m > 5 {
			l.sees(5, seen("/l", ""))
			l.shows(api.HeldWaiting, vote3, 0, api.OK)
			continue
		}
		l.sees(5, seen("/l", ""), unwatches(1))
		l.shows(api.HeldOut, "", 0, api.ErrNoNode)
	}
}

// TestElectionValues: P20.7, a picture without the node leaves the Values as they were.
func TestElectionValues(t *testing.T) {
	l := elected(t, 6, seen("/l", "", "/l/vote-00001", "a", vote3, "me"))
	l.hears(taken(marker(8, api.Part{Id: 1, Shot: shotOf(3, "/l", api.WatchSubtree, seen("/l", "", "/l/vote-00000", "z")...)})))
	l.shows(api.HeldWaiting, vote3, 0, api.OK, "a")
	l.hears(taken(marker(9, api.Part{Id: 1, Shot: shotOf(9, "/l", api.WatchSubtree, seen("/l", "", "/l/vote-00000", "z")...)})), unwatches(1))
	l.shows(api.HeldOut, "", 0, api.ErrNoNode, "a")
	begun(l)
	l.shows(api.HeldAsking, "", 0, api.OK)
}

// TestElectionAnswers: P20.7, the OpMake's answer and the grant with each code.
func TestElectionAnswers(t *testing.T) {
	for _, code := range allCodes() {
		if code == api.OK {
			continue
		}
		l := born(t, jobOf(api.JobElect))
		basedCalled(l)
		l.answers(refusal(5, code))
		l.shows(api.HeldOut, "", 0, code)
		l = born(t, jobOf(api.JobElect))
		waitingKnown(l)
		var drop []api.Wish
		if code != api.ErrNoNode && code != api.ErrSession {
			drop = append(drop, does(drops(vote3)))
		}
		l.hears(refused(1, "/l", api.WatchSubtree, code), drop...)
		l.shows(api.HeldOut, "", 0, code)
	}
}
