package recipe_test

import (
	"math"
	"slices"
	"testing"

	"herald/api"
)

// someNumbers are numbers of requests and watches.
func someNumbers() []int {
	return []int{math.MinInt, -1 << 32, -1, 1, 2, 3, 69, 70, 71, 1 << 32, 1<<32 + 70, math.MaxInt}
}

// otherOps are lists of ops of which each differs in one thing.
func otherOps(ops []api.Op) [][]api.Op {
	all := [][]api.Op{nil, {}, append(slices.Clone(ops), api.Op{}), append(slices.Clone(ops), ops[0]), append([]api.Op{{}}, ops...), ops[1:]}
	for i, o := range ops {
		for _, turn := range []func(o *api.Op){
			func(o *api.Op) { o.Kind++ },
			func(o *api.Op) { o.Kind += 1 << 32 },
			func(o *api.Op) { o.Place += "a" },
			func(o *api.Op) { o.Place = "" },
			func(o *api.Op) { o.Data += "a" },
			func(o *api.Op) { o.Data += "\x00" },
			func(o *api.Op) { o.Version++ },
			func(o *api.Op) { o.Version = -2 },
			func(o *api.Op) { o.Flags ^= api.FlagBrief },
			func(o *api.Op) { o.Flags ^= api.FlagCounted },
		} {
			wrong := slices.Clone(ops)
			turn(&o)
			wrong[i], o = o, ops[i]
			all = append(all, wrong)
		}
	}
	if len(ops) == 2 {
		all = append(all, []api.Op{ops[1], ops[0]})
	}
	return all
}

// eachOpen looks at the standings in which a request is open that was not called as yet.
func eachOpen(t *testing.T, look func(t *testing.T, s standing)) {
	t.Helper()
	eachStanding(t, func(t *testing.T, s standing) {
		if s.open != nil && !s.called {
			look(t, s)
		}
	})
}

// isNoAnswer holds that an answer of that number is none.
func (s standing) isNoAnswer(l *life, number int) {
	l.t.Helper()
	for _, r := range []api.Reply{s.goodReply(), refusal(60, strange), refusal(60, api.ErrNoNode), refusal(60, api.ErrVersion), {}} {
		l.hears(answered(number, r))
		s.is(l)
	}
}

// TestReplyAheadOfCall: an answer that is heard ahead of the call is none, whatever its number; nor is one of another request.
func TestReplyAheadOfCall(t *testing.T) {
	eachOpen(t, func(t *testing.T, s standing) {
		l := s.live(t)
		for _, number := range append(someNumbers(), 0) {
			s.isNoAnswer(l, number)
		}
		l.hears(called(70, s.open...))
		for _, number := range append(someNumbers(), 0) {
			if number != 70 {
				s.isNoAnswer(l, number)
			}
		}
		s.called, l.request = true, 70
		s.goesOn(l)
	})
}

// TestOtherCalls: a call with other ops, or of the request 0, does not say the number.
func TestOtherCalls(t *testing.T) {
	eachOpen(t, func(t *testing.T, s standing) {
		for _, ops := range otherOps(s.open) {
			l := s.live(t)
			l.hears(called(70, ops...))
			s.isNoAnswer(l, 70)
			s.goesOn(l)
		}
		l := s.live(t)
		l.hears(called(0, s.open...))
		s.isNoAnswer(l, 0)
		s.isNoAnswer(l, 70)
		s.goesOn(l)
	})
}

// TestFirstCall: the first call that is right says the number; a second one says nothing.
func TestFirstCall(t *testing.T) {
	eachOpen(t, func(t *testing.T, s standing) {
		for _, first := range someNumbers() {
			for _, second := range someNumbers() {
				if first == second {
					continue
				}
				l := s.live(t)
				l.hears(called(first, s.open...))
				l.hears(called(second, s.open...))
				l.hears(called(0, s.open...))
				s.isNoAnswer(l, second)
				s.called, l.request = true, first
				s.goesOn(l)
			}
		}
	})
}

// TestCallAhead: a call that was heard ahead of the wish does not say its number.
func TestCallAhead(t *testing.T) {
	for _, kind := range allKinds() {
		l := born(t, jobOf(kind))
		l.hears(called(1, baseOp(l.job)))
		begun(l)
		l.hears(answered(1, refusal(2, api.ErrExists)))
		l.hears(called(2, firstOp(l.job)))
		l.request = 2
		l.calls()
		l.answers(refusal(2, api.ErrExists), does(firstOp(l.job)))
		l.hears(answered(2, refusal(3, strange)))
		l.shows(api.HeldAsking, "", 0, api.OK)
		l.hears(answered(3, refusal(3, strange)))
		l.shows(api.HeldAsking, "", 0, api.OK)
	}
}

// TestAnsweredTwice: an answer is one, not two: what comes again is none to what is asked then.
func TestAnsweredTwice(t *testing.T) {
	eachOpen(t, func(t *testing.T, s standing) {
		l := s.live(t)
		l.hears(called(70, s.open...))
		l.hear(answered(70, s.goodReply()))
		before := l.m.Sight()
		for _, r := range []api.Reply{s.goodReply(), refusal(61, strange), refusal(61, api.ErrNoNode)} {
			l.hears(answered(70, r))
		}
		if !same(l.m.Sight(), before) {
			t.Errorf("behind a second answer Sight is %+v, was %+v", l.m.Sight(), before)
		}
	})
}

// TestNoneOpen: where no request is open, calls and replies say nothing.
func TestNoneOpen(t *testing.T) {
	eachStanding(t, func(t *testing.T, s standing) {
		if s.open != nil {
			return
		}
		l := s.live(t)
		for _, ops := range [][]api.Op{{baseOp(s.job())}, {firstOp(s.job())}, {drops(own(s.kind))}, {lists("/l")}, nil} {
			l.hears(called(70, ops...))
			for _, number := range append(someNumbers(), 0, l.request) {
				l.hears(answered(number, kids(60, nameOf(s.kind)+"00003")))
				l.hears(answered(number, refusal(60, strange)))
			}
		}
		s.is(l)
	})
}

// TestResults: an answer with the Code OK that has not just one result for each op is one with the Code ErrJob.
func TestResults(t *testing.T) {
	eachOpen(t, func(t *testing.T, s standing) {
		good := s.goodReply()
		for count := range 6 {
			if count == len(s.open) || s.isLeft {
				continue
			}
			r := good
			r.Results = nil
			for i := range count {
				r.Results = append(r.Results, good.Results[i%len(good.Results)])
			}
			l := s.live(t)
			l.hears(called(70, s.open...))
			held, wishes := s.lostBy(l, api.ErrJob)
			l.hears(answered(70, r), wishes...)
			s.isLostNow(l, held)
		}
	})
}

// TestNoRivalMade: an answer to the OpMake of a job's own node of which the result's place is no rival's is one with the Code ErrJob.
func TestNoRivalMade(t *testing.T) {
	for _, kind := range []int{api.JobLock, api.JobElect, api.JobBarrier, api.JobPut} {
		name := nameOf(kind)
		for _, place := range []string{"", "/", "/l", "l", name + "00001", "/" + name + "00001", "/l/" + name, "/l/" + name + "0001", "/l/" + name + "000001", "/l/" + name + "0000a", "/l/" + name + "-0001", "/l/" + name + " 0001", "/l/" + name + "+0001", "/l/x" + name + "00001", "/l/" + name + "00001/", "/l/" + name + "00001/a", "/l/l/" + name + "00001", "/m/" + name + "00001", "//l/" + name + "00001", "/l//" + name + "00001", "/l/other-00001", "/l/" + name[:4] + "000001"} {
			l := born(t, jobOf(kind))
			basedCalled(l)
			l.answers(made(5, place))
			l.shows(api.HeldOut, "", 0, api.ErrJob)
			l.begins(does(baseOp(l.job)))
			l = born(t, jobOf(kind))
			basedCalled(l)
			l.leaves()
			l.answers(made(5, place))
			l.shows(api.HeldDone, "", 0, api.OK)
		}
		for _, place := range []string{"/l/" + name + "00000", "/l/" + name + "99999", "/l/" + name + "01234", "/l/" + name + "56789"} {
			l := born(t, jobOf(kind))
			basedCalled(l)
			l.hear(answered(l.request, made(5, place)))
			if held := l.m.Sight(); held.Place != place || held.Phase == api.HeldOut {
				t.Errorf("P20.6 to P20.10: a node was made at %s, and Sight is %+v", place, held)
			}
		}
	}
}

// TestResultsOfBase: at the OpMake of Base the result's place is not looked at.
func TestResultsOfBase(t *testing.T) {
	for _, kind := range allKinds() {
		for _, place := range []string{"", "/l", "/other", own(kind)} {
			l := born(t, jobOf(kind))
			begunCalled(l)
			l.answers(made(5, place), does(firstOp(l.job)))
		}
	}
}

// TestRefusedWithResults: a code that is not OK is that code, whatever results there are.
func TestRefusedWithResults(t *testing.T) {
	eachOpen(t, func(t *testing.T, s standing) {
		r := s.goodReply()
		r.Code = strange
		l := s.live(t)
		l.hears(called(70, s.open...))
		held, wishes := s.failing(l, 60, strange)
		l.hears(answered(70, r), wishes...)
		if got := l.m.Sight(); !same(got, held) {
			t.Errorf("Sight is %+v, want %+v", got, held)
		}
	})
}
