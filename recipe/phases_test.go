package recipe_test

import (
	"fmt"
	"math"
	"testing"

	"herald/api"
)

// strange is a code that no promise speaks of.
const strange = api.Errno(999)

// renewed is what a machine shows once it has begun.
func (s standing) renewed(values []string) api.Held {
	if isBrief(s.kind) {
		values = nil
	}
	return api.Held{Phase: api.HeldAsking, Values: values}
}

// TestBegin: P20.2, in each standing.
func TestBegin(t *testing.T) {
	eachStanding(t, func(t *testing.T, s standing) {
		l := s.live(t)
		if s.held.Phase == api.HeldOut {
			l.begins(does(baseOp(s.job())))
			s.held, s.open, s.called = s.renewed(s.held.Values), []api.Op{baseOp(s.job())}, false
			s.is(l)
		}
		l.begins()
		s.is(l)
		if s.late {
			l.hears(watched(8, watchOf(s.kind).Place, watchOf(s.kind).Watch), unwatches(8))
		}
		s.goesOn(l)
	})
}

// goesOn holds that the open request is still open, and nothing else is: by an answer that fails it.
func (s standing) goesOn(l *life) {
	l.t.Helper()
	number := s.number(l)
	if number == 0 {
		number = 70
		l.hears(called(number, s.open...))
	}
	held, wishes := s.failing(l, 60, strange)
	l.hears(answered(number, refusal(60, strange)), wishes...)
	if got := l.m.Sight(); !same(got, held) {
		l.t.Errorf("%s: behind an answer by a strange code Sight is %+v, want %+v", s, got, held)
	}
}

// failing is what an answer by a code leads to that nothing goes on by: what is shown, and what is wished for.
func (s standing) failing(l *life, stamp int, code api.Errno) (api.Held, []api.Wish) {
	held := s.held
	switch {
	case s.open == nil:
		return held, nil
	case !s.isLeft:
		return s.lostBy(l, code)
	case held.Place == "" || !isBrief(s.kind):
		held.Phase = api.HeldDone
	case s.open[0] == drops(held.Place):
		held.Phase, held.Place, held.Stamp = api.HeldDone, "", stamp
	default:
		return held, []api.Wish{does(drops(held.Place))}
	}
	return held, nil
}

// lostBy is what being lost by a code leads to.
func (s standing) lostBy(l *life, code api.Errno) (api.Held, []api.Wish) {
	var wishes []api.Wish
	if s.watch == known || s.watch == seeing {
		wishes = append(wishes, unwatches(l.id))
	}
	held := s.held
	held.Phase, held.Code, held.Place = api.HeldOut, code, ""
	if isBrief(s.kind) && s.held.Place != "" && code != api.ErrNoNode && code != api.ErrSession {
		wishes = append(wishes, does(drops(s.held.Place)))
	}
	return held, wishes
}

// TestLost: being lost by every code in every phase: at an answer, and, in the standings in which there is a watch, by its refusal.
func TestLost(t *testing.T) {
	eachStanding(t, func(t *testing.T, s standing) {
		for _, code := range allCodes() {
			if s.open != nil && !s.isLeft && !s.isGoodAt(code) {
				l := s.live(t)
				held, wishes := s.lostBy(l, code)
				l.hears(called(70, s.open...))
				l.hears(answered(max(s.number(l), 70*btoi(!s.called)), refusal(60, code)), wishes...)
				s.isLostNow(l, held)
			}
			if code != api.OK && s.watch == known {
				l := s.live(t)
				w := watchOf(s.kind)
				held, wishes := s.lostBy(l, code)
				l.hears(refused(l.id, w.Place, w.Watch, code), wishes[1:]...)
				s.isLostNow(l, held)
			}
		}
	})
}

// isGoodAt tells whether the open request has more to do with an answer by that code than to be lost by it.
func (s standing) isGoodAt(code api.Errno) bool {
	switch {
	case code == api.OK:
		return true
	case s.open[0] == baseOp(s.job()):
		return code == api.ErrExists || code == api.ErrRoot
	case s.open[0].Kind == api.OpSet:
		return code == api.ErrVersion || code == api.ErrNoNode
	case s.open[0].Kind == api.OpGet:
		return code == api.ErrNoNode
	}
	return false
}

// isLostNow holds what is shown, and that nothing is left of what the machine waited for; it may begin again.
func (s standing) isLostNow(l *life, held api.Held) {
	l.t.Helper()
	now := standing{name: "lost, " + s.name, kind: s.kind, held: held}
	now.is(l)
	now.hearsNothing(l, s)
	l.begins(does(baseOp(s.job())))
	now.held = now.renewed(held.Values)
	now.is(l)
}

// hearsNothing holds that a machine that is out or done hears nothing of what it waited for ahead, but for the id of a watch that is to be given up.
func (s standing) hearsNothing(l *life, ahead standing) {
	l.t.Helper()
	w := watchOf(s.kind)
	full := shotOf(90, w.Place, w.Watch, ahead.nodes...)
	for _, x := range []api.Told{
		called(80, ahead.open...), answered(80, made(90, own(s.kind))), answered(l.request, made(90, own(s.kind))), answered(70, made(90, own(s.kind))), answered(70, refusal(90, api.ErrNoNode)),
		granted(l.id, full), taken(event(91, dropsNode(two(s.kind), l.id))), taken(marker(92, api.Part{Id: l.id, Shot: full})),
		watched(81, w.Place, w.Watch), granted(81, full), taken(event(91, makesNode(two(s.kind), "", 81))), refused(81, w.Place, w.Watch, api.ErrFull),
		called(82, drops(own(s.kind))), answered(82, refusal(95, api.ErrFull)), answered(82, made(95, own(s.kind))),
	} {
		var want []api.Wish
		if s.late && x.Kind == api.ToldWatch {
			s.late, want = false, []api.Wish{unwatches(x.Watch.Id)}
		}
		l.hears(x, want...)
		s.is(l)
	}
}

// TestLeave: P20.4, in each standing; and again; and what is to be given up is given up behind it.
func TestLeave(t *testing.T) {
	eachStanding(t, func(t *testing.T, s standing) {
		l := s.live(t)
		want := s.leave(l)
		l.leaves(want...)
		s.is(l)
		l.leaves()
		l.begins()
		s.is(l)
		w := watchOf(s.kind)
		if s.late {
			for _, other := range []api.Told{watched(8, "/l/other", w.Watch), watched(8, w.Place, w.Watch%3+1), watched(8, "", 0)} {
				l.hears(other)
			}
			l.hears(watched(8, w.Place, w.Watch), unwatches(8))
		}
		l.hears(watched(9, w.Place, w.Watch))
		s.is(l)
		s.goesOn(l)
	})
}

// leave turns a standing into the one behind Leave; and answers what is wished for.
func (s *standing) leave(l *life) []api.Wish {
	var wishes []api.Wish
	switch {
	case s.isLeft || s.held.Phase == api.HeldDone:
		return nil
	case s.held.Phase == api.HeldOut:
		s.held.Phase = api.HeldDone
	default:
		s.held.Phase = api.HeldAsking
		if s.watch == known || s.watch == seeing {
			wishes = append(wishes, unwatches(l.id))
		}
		s.late = s.watch == unknown
		switch {
		case s.open != nil:
		case isBrief(s.kind):
			s.open, s.called = []api.Op{drops(s.held.Place)}, false
			wishes = append(wishes, does(drops(s.held.Place)))
		default:
			s.held.Phase = api.HeldDone
		}
	}
	s.isLeft, s.watch = true, noWatch
	return wishes
}

// goodReply is an answer to the open request that gives what it can give.
func (s standing) goodReply() api.Reply {
	var all []api.Result
	for _, o := range s.open {
		r := api.Result{Place: o.Place, Data: "6", Version: 4, Made: 50, Changed: 50, Kids: []string{nameOf(s.kind) + "00002", nameOf(s.kind) + "00003"}}
		if o.Flags&counted != 0 {
			r.Place = own(s.kind)
		}
		all = append(all, r)
	}
	return results(60, all...)
}

// TestLeftAnswers: P20.4, what a machine that is left does at the answer to its open request, with each code, and with too few and too many results; and at the answer to its OpDrop.
func TestLeftAnswers(t *testing.T) {
	eachStanding(t, func(t *testing.T, s standing) {
		if s.open == nil {
			return
		}
		wrong := []api.Reply{results(60), results(60, api.Result{Place: own(s.kind)}, api.Result{Place: own(s.kind)}, api.Result{})}
		for _, code := range allCodes() {
			if code != api.OK {
				wrong = append(wrong, refusal(60, code))
			}
		}
		for _, r := range append(wrong, s.goodReply()) {
			l, now := s.live(t), s
			l.leaves(now.leave(l)...)
			l.hears(called(70, s.open...))
			l.hears(answered(max(now.number(l), 70*btoi(!now.called)), r), now.leftAnswer(r)...)
			now.is(l)
			if now.open != nil {
				l.calls()
				l.answers(r, now.leftAnswer(r)...)
				now.is(l)
			}
			now.hearsNothing(l, s)
		}
	})
}

// leftAnswer turns a standing into the one behind the answer to the open request of a machine that is left.
func (s *standing) leftAnswer(r api.Reply) []api.Wish {
	asked := s.open
	s.open, s.called = nil, true
	isGood := r.Code == api.OK && len(r.Results) == len(asked)
	switch {
	case !isBrief(s.kind):
		s.held.Phase = api.HeldDone
		if isGood {
			s.gains(asked[0], r)
		}
		return nil
	case s.held.Place != "" && asked[0] == drops(s.held.Place):
		s.held.Phase, s.held.Place, s.held.Stamp = api.HeldDone, "", r.Stamp
		return nil
	case isGood && asked[0].Flags&counted != 0:
		s.held.Place = r.Results[0].Place
	}
	if s.held.Place == "" {
		s.held.Phase = api.HeldDone
		return nil
	}
	s.open = []api.Op{drops(s.held.Place)}
	return []api.Wish{does(s.open...)}
}

// gains is what a good answer gives a job that does something several times.
func (s *standing) gains(asked api.Op, r api.Reply) {
	add := func(place, value string) {
		s.held.Place, s.held.Stamp = place, r.Stamp
		s.held.Values = append(append([]string(nil), s.held.Values...), value)
	}
	switch {
	case asked.Kind == api.OpSet:
		add("", asked.Data)
	case asked.Flags&counted != 0:
		add(r.Results[0].Place, asked.Data)
	case asked.Kind == api.OpGet && s.kind == api.JobTake:
		add(asked.Place, r.Results[0].Data)
	}
}

// TestEnd: P20.5, ToldEnd and ToldGone in each standing, left and not.
func TestEnd(t *testing.T) {
	eachStanding(t, func(t *testing.T, s standing) {
		for _, x := range []api.Told{told(api.ToldEnd), told(api.ToldGone), {Kind: api.ToldGone, Code: api.ErrOld}} {
			for _, isLeft := range []bool{false, true} {
				l, now := s.live(t), s
				if isLeft {
					l.leaves(now.leave(l)...)
				}
				l.hears(x)
				now.end()
				now.is(l)
				now.hearsNothing(l, s)
				l.hears(x)
				if now.held.Phase == api.HeldOut {
					l.begins(does(baseOp(s.job())))
					now.held = now.renewed(now.held.Values)
				}
				now.is(l)
			}
		}
	})
}

// end turns a standing into the one behind the end of the session.
func (s *standing) end() {
	s.open, s.watch, s.late = nil, noWatch, false
	switch {
	case s.held.Phase == api.HeldOut || s.held.Phase == api.HeldDone:
	case s.isLeft:
		s.held.Phase, s.held.Place = api.HeldDone, ""
	default:
		s.held.Phase, s.held.Place, s.held.Code = api.HeldOut, "", api.ErrSession
	}
}

// TestNotSpokenOf: P20.5, other told things say nothing, in each standing, whatever they bring.
func TestNotSpokenOf(t *testing.T) {
	eachStanding(t, func(t *testing.T, s standing) {
		l := s.live(t)
		w := watchOf(s.kind)
		for _, kind := range []int{math.MinInt, -1, 0, api.ToldBegin, api.ToldBegun, api.ToldUnwatch, 11, 12, 1 << 32, 1<<32 + api.ToldGone, math.MaxInt} {
			for _, id := range []int{0, l.id, l.id + 1} {
				full := shotOf(90, w.Place, w.Watch)
				l.hears(api.Told{Kind: kind, Session: 1, Client: 1, Request: max(1, l.request), Ops: s.open, Reply: refusal(90, api.ErrFull), Code: api.ErrFull, Watch: api.Watch{Id: id, Place: w.Place, Kind: w.Watch}, Part: api.Part{Id: id, Shot: full}, Item: marker(90, api.Part{Id: id, Shot: full})})
			}
			s.is(l)
		}
		if s.late {
			l.hears(watched(8, w.Place, w.Watch), unwatches(8))
		}
		s.goesOn(l)
	})
}

// TestBaseAnswers: P20.3, with each code, and with too few and too many results.
func TestBaseAnswers(t *testing.T) {
	for _, kind := range allKinds() {
		for _, code := range allCodes() {
			for count := range 3 {
				l := born(t, jobOf(kind))
				begunCalled(l)
				r := api.Reply{Stamp: 3, Code: code, Results: make([]api.Result, count)}
				if code == api.ErrExists || code == api.ErrRoot || code == api.OK && count == 1 {
					l.answers(r, does(firstOp(l.job)))
					l.shows(api.HeldAsking, "", 0, api.OK)
					continue
				}
				l.answers(r)
				if code == api.OK {
					code = api.ErrJob
				}
				l.shows(api.HeldOut, "", 0, code)
				l.begins(does(baseOp(l.job)))
				l.shows(api.HeldAsking, "", 0, api.OK)
			}
		}
	}
}

// TestBaseIsAnyPlace: P20.2 and P20.3, what is asked lies at and below Base, the root too.
func TestBaseIsAnyPlace(t *testing.T) {
	for _, base := range []string{"/", "/a", "/a/b/c/d/e"} {
		for _, kind := range allKinds() {
			job := jobOf(kind)
			job.Base = base
			l := born(t, job)
			l.begins(does(baseOp(job)))
			ahead, first := base+"/", firstOp(job)
			if base == "/" {
				ahead = base
			}
			first.Place = base
			if first.Kind == api.OpMake {
				first.Place = ahead + nameOf(kind)
			}
			l.asked(refusal(2, api.ErrExists), does(first))
			switch kind {
			case api.JobLock:
				l.asked(made(4, ahead+"lock-00002"), does(lists(base)))
				l.asked(kids(5, "lock-00002", "lock-00001"), watches(ahead+"lock-00001", api.WatchNode))
			case api.JobElect:
				l.asked(made(4, ahead+"vote-00002"), watches(base, api.WatchSubtree))
				l.sees(4, seen(ahead+"vote-00002", "me"))
				l.shows(api.HeldIn, ahead+"vote-00002", 4, api.OK, "me")
			case api.JobBarrier:
				l.asked(made(4, ahead+"wait-00002"), watches(base, api.WatchKids))
				l.sees(4, bare(ahead+"wait-00000", ahead+"wait-00002"))
				l.shows(api.HeldIn, ahead+"wait-00002", 4, api.OK)
			case api.JobCounter:
				l.asked(results(4, api.Result{Data: "3"}), does(sets(base, "4", 0)))
			case api.JobPut:
				l.asked(made(4, ahead+"item-00002"), does(first))
				l.shows(api.HeldAsking, ahead+"item-00002", 4, api.OK, "it")
			case api.JobTake:
				l.asked(kids(4, "item-00002"), does(gets(ahead+"item-00002"), drops(ahead+"item-00002")))
				l.asked(refusal(5, api.ErrNoNode), does(lists(base)))
				l.asked(kids(6), watches(base, api.WatchKids))
				l.sees(7, bare(base, ahead+"item-00003"), does(lists(base)))
			}
		}
	}
}

func btoi(b bool) int {
	if b {
		return 1
	}
	return 0
}

// TestBeginAgain: P20.2, a job that was lost begins anew, with all that it had of a node forgotten; one of several times keeps its values, and goes on with the times that are left.
func TestBeginAgain(t *testing.T) {
	for _, kind := range allKinds() {
		t.Run(fmt.Sprint(kind), func(t *testing.T) {
			l := born(t, jobOf(kind))
			switch {
			case isBrief(kind):
				in(l)
				stamp, values := 9, l.m.Sight().Values
				l.hears(told(api.ToldGone))
				l.shows(api.HeldOut, "", stamp, api.ErrSession, values...)
				begun(l)
				l.shows(api.HeldAsking, "", 0, api.OK)
			default:
				once(l)
				values := l.m.Sight().Values
				l.asked(refusal(8, api.ErrFull))
				l.shows(api.HeldOut, "", 7, api.ErrFull, values...)
				begun(l)
				l.shows(api.HeldAsking, "", 0, api.OK, values...)
				l.asked(refusal(9, api.ErrExists), does(firstOp(l.job)))
				switch kind {
				case api.JobCounter:
					l.asked(results(10, api.Result{Data: "9", Version: 1}), does(sets("/l", "10", 1)))
					l.asked(results(11, api.Result{}))
					l.shows(api.HeldDone, "", 11, api.OK, "7", "10")
				case api.JobPut:
					l.asked(made(11, own(kind)))
					l.shows(api.HeldDone, own(kind), 11, api.OK, "it", "it")
				case api.JobTake:
					l.asked(kids(10, "item-00003"), does(gets(own(kind)), drops(own(kind))))
					l.asked(results(11, api.Result{Data: "z"}, api.Result{}))
					l.shows(api.HeldDone, own(kind), 11, api.OK, "it", "z")
				}
			}
		})
	}
}
