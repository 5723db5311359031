package recipe_test

import (
	"testing"

	"herald/api"
)

// TestSeveralLate: of several watches that are to be given up a ToldWatch is that of the first one with its place and kind; in whatever phase, and ahead of the present watch.
func TestSeveralLate(t *testing.T) {
	eachStanding(t, func(t *testing.T, s standing) {
		w := watchOf(s.kind)
		l := s.live(t)
		l.giveUpLater("/z", api.WatchNode)
		l.giveUpLater("/y", api.WatchKids)
		l.giveUpLater("/z", api.WatchNode)
		l.giveUpLater("/z", api.WatchKids)
		l.hears(watched(11, "/y", api.WatchNode))
		l.hears(watched(12, "/z", api.WatchNode), unwatches(12))
		l.hears(watched(13, "/z", api.WatchKids), unwatches(13))
		l.hears(watched(14, "/z", api.WatchKids))
		l.hears(watched(15, "/z", api.WatchNode), unwatches(15))
		l.hears(watched(16, "/z", api.WatchNode))
		l.hears(watched(17, "/y", api.WatchKids), unwatches(17))
		s.is(l)
		l.giveUpLater(w.Place, w.Watch)
		l.giveUpLater(w.Place, w.Watch)
		l.hears(watched(21, w.Place, w.Watch), unwatches(21))
		l.hears(watched(22, w.Place, w.Watch), unwatches(22))
		if s.late {
			l.hears(watched(23, w.Place, w.Watch), unwatches(23))
		}
		l.hears(watched(24, w.Place, w.Watch))
		s.is(l)
		if s.watch == unknown {
			s.isGranted(l, 24)
			return
		}
		s.goesOn(l)
	})
}

// TestLateForgotten: ToldEnd and ToldGone forget all watches that are to be given up, in each phase; Begin and being lost forget none.
func TestLateForgotten(t *testing.T) {
	eachStanding(t, func(t *testing.T, s standing) {
		for _, kind := range []int{api.ToldEnd, api.ToldGone} {
			l := s.live(t)
			l.giveUpLater("/z", api.WatchNode)
			l.giveUpLater("/y", api.WatchNode)
			l.hears(told(kind))
			l.hears(watched(11, "/z", api.WatchNode))
			l.hears(watched(12, "/y", api.WatchNode))
			if !s.isLeft && s.held.Phase != api.HeldDone {
				l.giveUpLater("/z", api.WatchNode)
				begun(l)
				l.hears(watched(13, "/z", api.WatchNode), unwatches(13))
				l.giveUpLater("/z", api.WatchNode)
				l.asked(refusal(40, strange))
				l.hears(watched(14, "/z", api.WatchNode), unwatches(14))
			}
		}
	})
}
