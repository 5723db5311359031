package recipe_test

import (
	"fmt"
	"testing"

	"herald/api"
)

const wait3 = "/l/wait-00003"

// barred is a barrier of a size whose node was made at the stamp 5, with its watch at the first picture.
func barred(t *testing.T, size, stamp int, nodes []api.Seen, want ...api.Wish) *life {
	t.Helper()
	job := jobOf(api.JobBarrier)
	job.Size = size
	l := born(t, job)
	entered(l)
	l.sees(stamp, nodes, want...)
	return l
}

// TestBarrier: P20.8, a barrier that waits for the third, and stays in, whatever comes then.
func TestBarrier(t *testing.T) {
	l := barred(t, 3, 6, bare("/l", "/l/wait-00001", wait3))
	l.shows(api.HeldWaiting, wait3, 0, api.OK)
	l.hears(taken(event(8, dropsNode("/l/wait-00001", 1))))
	l.hears(taken(event(9, makesNode("/l/other", "", 1), makesNode("/l/wait-00004", "", 1))))
	l.shows(api.HeldWaiting, wait3, 0, api.OK)
	l.hears(taken(event(10, makesNode("/l/wait-00005", "", 1))))
	l.shows(api.HeldIn, wait3, 10, api.OK)
	l.hears(taken(event(11, makesNode("/l/wait-00006", "", 1))))
	l.hears(taken(event(12, dropsNode(wait3, 1))))
	l.hears(taken(marker(13, api.Part{Id: 1, Shot: shotOf(13, "/l", api.WatchKids)})))
	l.shows(api.HeldIn, wait3, 10, api.OK)
	l.leaves(unwatches(1), does(drops(wait3)))
}

// TestBarrierSizes: P20.8, in as soon as there are Size rivals: at Size and above, not below; the own one need not be among them.
func TestBarrierSizes(t *testing.T) {
	for size := 1; size <= 6; size++ {
		for count := range 9 {
			for _, isThere := range []bool{false, true} {
				var places []string
				if isThere {
					places = append(places, wait3)
				}
				for i := len(places); i < count; i++ {
					places = append(places, fmt.Sprintf("/l/wait-0001%d", i))
				}
				nodes := bare(append([]string{"/l"}, places...)...)
				if len(places) >= size {
					l := barred(t, size, 6, nodes)
					l.shows(api.HeldIn, wait3, 6, api.OK)
				} else if isThere {
					l := barred(t, size, 6, nodes)
					l.shows(api.HeldWaiting, wait3, 0, api.OK)
				} else {
					l := barred(t, size, 6, nodes, unwatches(1))
					l.shows(api.HeldOut, "", 0, api.ErrNoNode)
				}
			}
		}
	}
}

// TestBarrierTooEarly: P20.8, as with elections; but enough rivals are enough, at whatever stamp.
func TestBarrierTooEarly(t *testing.T) {
	for stamp := range 9 {
		for _, nodes := range [][]api.Seen{nil, bare("/l"), bare("/l", "/l/wait-00001")} {
			if stamp < 5 {
				l := barred(t, 2, stamp, nodes)
				l.shows(api.HeldWaiting, wait3, 0, api.OK)
				continue
			}
			l := barred(t, 2, stamp, nodes, unwatches(1))
			l.shows(api.HeldOut, "", 0, api.ErrNoNode)
		}
		l := barred(t, 2, stamp, bare("/l", "/l/wait-00000", "/l/wait-00001"))
		l.shows(api.HeldIn, wait3, stamp, api.OK)
	}
}

// TestBarrierMade: P20.8, the stamp at which the node was made is the result's Made.
func TestBarrierMade(t *testing.T) {
	for _, m := range []int{0, 1, 5, 7} {
		l := born(t, jobOf(api.JobBarrier))
		basedCalled(l)
		l.answers(results(90, api.Result{Place: wait3, Made: m, Changed: 95}), watches("/l", api.WatchKids))
		if m > 5 {
			l.sees(5, bare("/l"))
			l.shows(api.HeldWaiting, wait3, 0, api.OK)
			continue
		}
		l.sees(5, bare("/l"), unwatches(1))
		l.shows(api.HeldOut, "", 0, api.ErrNoNode)
	}
}

// TestBarrierAnswers: P20.8, the OpMake's answer and the grant with each code.
func TestBarrierAnswers(t *testing.T) {
	for _, code := range allCodes() {
		if code == api.OK {
			continue
		}
		l := born(t, jobOf(api.JobBarrier))
		basedCalled(l)
		l.answers(refusal(5, code))
		l.shows(api.HeldOut, "", 0, code)
		l = born(t, jobOf(api.JobBarrier))
		waitingKnown(l)
		var drop []api.Wish
		if code != api.ErrNoNode && code != api.ErrSession {
			drop = append(drop, does(drops(wait3)))
		}
		l.hears(refused(1, "/l", api.WatchKids, code), drop...)
		l.shows(api.HeldOut, "", 0, code)
	}
}

// TestBarrierLost: P20.8, a barrier whose node is gone ahead of its being in.
func TestBarrierLost(t *testing.T) {
	l := barred(t, 3, 6, bare("/l", wait3))
	l.hears(taken(event(8, dropsNode(wait3, 1))), unwatches(1))
	l.shows(api.HeldOut, "", 0, api.ErrNoNode)
	l.hears(taken(event(9, makesNode("/l/wait-00005", "", 1), makesNode("/l/wait-00006", "", 1), makesNode("/l/wait-00007", "", 1))))
	l.shows(api.HeldOut, "", 0, api.ErrNoNode)
}
