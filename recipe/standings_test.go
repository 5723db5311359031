package recipe_test

import (
	"fmt"
	"testing"

	"herald/api"
)

const (
	brief   = api.FlagBrief
	counted = api.FlagCounted
)

// What the watch of a machine may be like.
const (
	noWatch = iota
	unknown // it was wished for
	known   // it has an id
	seeing  // it is granted
)

// standing is how a machine may stand, and what is to be known of it.
type standing struct {
	name   string
	kind   int
	way    func(l *life)
	held   api.Held
	open   []api.Op // nil: none is open
	called bool
	watch  int
	picture
	late   bool // a watch is to be given up as soon as its id is known
	isLeft bool
}

// picture is what a watch that is granted sees.
type picture struct {
	stamp int
	nodes []api.Seen
}

// baseOp is what a job asks first.
func baseOp(job api.Job) api.Op {
	if job.Kind == api.JobCounter {
		return makes(job.Base, "0", 0)
	}
	return makes(job.Base, "", 0)
}

// ownOp asks for a node of a job's own.
func ownOp(job api.Job) api.Op {
	flags := counted
	if isBrief(job.Kind) {
		flags |= brief
	}
	return makes("/l/"+nameOf(job.Kind), job.Data, flags)
}

// firstOp is what a job asks behind that.
func firstOp(job api.Job) api.Op {
	switch job.Kind {
	case api.JobCounter:
		return gets("/l")
	case api.JobTake:
		return lists("/l")
	}
	return ownOp(job)
}

// Places of a job's nodes:

func one(kind int) string { return "/l/" + nameOf(kind) + "00001" }

func two(kind int) string { return "/l/" + nameOf(kind) + "00002" }

func own(kind int) string { return "/l/" + nameOf(kind) + "00003" }

// The ways to standings, each behind the one ahead of it:

func begun(l *life) { l.begins(does(baseOp(l.job))) }

func begunCalled(l *life) {
	begun(l)
	l.calls()
}

func based(l *life) {
	begunCalled(l)
	l.answers(refusal(2, api.ErrExists), does(firstOp(l.job)))
}

func basedCalled(l *life) {
	based(l)
	l.calls()
}

// entered has its node, made at the stamp 5.
func entered(l *life) {
	basedCalled(l)
	first := map[int]api.Wish{api.JobLock: does(lists("/l")), api.JobElect: watches("/l", api.WatchSubtree), api.JobBarrier: watches("/l", api.WatchKids)}[l.job.Kind]
	l.answers(made(5, own(l.job.Kind)), first)
}

// waiting has wished for its watch.
func waiting(l *life) {
	switch l.job.Kind {
	case api.JobLock:
		entered(l)
		l.asked(kids(6, "lock-00001", "lock-00002", "lock-00003"), watches(two(api.JobLock), api.WatchNode))
	case api.JobTake:
		basedCalled(l)
		l.answers(kids(6), watches("/l", api.WatchKids))
	default:
		entered(l)
	}
}

func waitingKnown(l *life) {
	waiting(l)
	l.learns()
}

// aside is what a watch sees as long as the machine has to wait.
func aside(kind int) picture {
	switch kind {
	case api.JobLock:
		return picture{6, seen(two(kind), "")}
	case api.JobElect:
		return picture{6, seen("/l", "", two(kind), "you", own(kind), "me")}
	case api.JobBarrier:
		return picture{6, bare("/l", own(kind))}
	}
	return picture{6, bare("/l")}
}

func waitingSeeing(l *life) {
	waitingKnown(l)
	p := aside(l.job.Kind)
	l.hears(granted(l.id, shotOf(p.stamp, l.watch.Place, l.watch.Watch, p.nodes...)))
}

// looking is a lock that saw the one ahead go.
func looking(l *life) {
	waitingSeeing(l)
	l.hears(taken(event(8, dropsNode(two(l.job.Kind), l.id))), unwatches(l.id), does(lists("/l")))
}

// in is in since the stamp 9.
func in(l *life) {
	switch k := l.job.Kind; k {
	case api.JobLock:
		looking(l)
		l.asked(kids(9, "lock-00003"))
	case api.JobElect:
		waitingSeeing(l)
		l.hears(taken(event(9, dropsNode(two(k), l.id))))
	case api.JobBarrier:
		waitingSeeing(l)
		l.hears(taken(event(9, makesNode(two(k), "", l.id))))
	}
}

// lost is lost by a code at the answer to what it asked first behind Base.
func lost(l *life) {
	basedCalled(l)
	l.answers(refusal(5, api.ErrFull))
}

// setting is a counter that found 6.
func setting(l *life) {
	basedCalled(l)
	l.answers(results(5, api.Result{Place: "/l", Data: "6", Version: 4}), does(sets("/l", "7", 4)))
}

// once has one value of two, since the stamp 7.
func once(l *life) {
	switch k := l.job.Kind; k {
	case api.JobCounter:
		setting(l)
		l.asked(results(7, api.Result{Place: "/l"}), does(gets("/l")))
	case api.JobPut:
		basedCalled(l)
		l.answers(made(7, two(k)), does(ownOp(l.job)))
	case api.JobTake:
		taking(l)
		l.asked(results(7, api.Result{Data: "it"}, api.Result{}), does(lists("/l")))
	}
}

// twice is done since the stamp 10.
func twice(l *life) {
	once(l)
	switch k := l.job.Kind; k {
	case api.JobCounter:
		l.asked(results(8, api.Result{Place: "/l", Data: "7", Version: 5}), does(sets("/l", "8", 5)))
		l.asked(results(10, api.Result{Place: "/l"}))
	case api.JobPut:
		l.asked(made(10, own(k)))
	case api.JobTake:
		l.asked(kids(8, "item-00003"), does(gets(own(k)), drops(own(k))))
		l.asked(results(10, api.Result{Data: "that"}, api.Result{}))
	}
}

// taking has found the item 2.
func taking(l *life) {
	basedCalled(l)
	l.answers(kids(6, "item-00002"), does(gets(two(api.JobTake)), drops(two(api.JobTake))))
}

// woken is a taker whose watch has shown it an item, made at the stamp 8.
func woken(l *life) {
	waitingSeeing(l)
	l.hears(taken(event(8, makesNode(two(api.JobTake), "", l.id))), does(lists("/l")))
}

func wokenTaking(l *life) {
	woken(l)
	l.asked(kids(9, "item-00002"), does(gets(two(api.JobTake)), drops(two(api.JobTake))))
}

// wokenInVain has found nothing, as another one was quicker.
func wokenInVain(l *life) {
	woken(l)
	l.asked(kids(9))
}

func wokenOnce(l *life) {
	wokenTaking(l)
	l.asked(results(10, api.Result{Data: "it"}, api.Result{}), does(lists("/l")))
}

// leaving goes a way, and is left then, which leads to these wishes.
func leaving(way func(l *life), want func(l *life) []api.Wish) func(l *life) {
	return func(l *life) {
		way(l)
		l.leaves(want(l)...)
	}
}

func nothing(*life) []api.Wish { return nil }

func dropping(l *life) []api.Wish { return []api.Wish{does(drops(own(l.job.Kind)))} }

func unwatching(l *life) []api.Wish { return []api.Wish{unwatches(l.id)} }

func unwatchingAndDropping(l *life) []api.Wish { return append(unwatching(l), dropping(l)...) }

// standings are those of all kinds.
func standings() []standing {
	var all []standing
	for _, kind := range allKinds() {
		all = append(all, early(kind)...)
		if isBrief(kind) {
			all = append(all, nodeStandings(kind)...)
		}
	}
	all = append(all, lockStandings()...)
	all = append(all, counterStandings()...)
	all = append(all, putStandings()...)
	return append(all, takeStandings()...)
}

// early are standings that all kinds have.
func early(kind int) []standing {
	job := jobOf(kind)
	first, next := []api.Op{baseOp(job)}, []api.Op{firstOp(job)}
	asking := api.Held{Phase: api.HeldAsking}
	fails := api.Held{Phase: api.HeldOut, Code: api.ErrFull}
	done, failed := api.Held{Phase: api.HeldDone}, api.Held{Phase: api.HeldDone, Code: api.ErrFull}
	return []standing{
		{name: "new", kind: kind, way: func(*life) {}},
		{name: "begun", kind: kind, way: begun, held: asking, open: first},
		{name: "begun, called", kind: kind, way: begunCalled, held: asking, open: first, called: true},
		{name: "based", kind: kind, way: based, held: asking, open: next},
		{name: "based, called", kind: kind, way: basedCalled, held: asking, open: next, called: true},
		{name: "lost", kind: kind, way: lost, held: fails},
		{name: "left when new", kind: kind, way: leaving(func(*life) {}, nothing), held: done, isLeft: true},
		{name: "left when lost", kind: kind, way: leaving(lost, nothing), held: failed, isLeft: true},
		{name: "left when begun", kind: kind, way: leaving(begun, nothing), held: asking, open: first, isLeft: true},
		{name: "left when called", kind: kind, way: leaving(begunCalled, nothing), held: asking, open: first, called: true, isLeft: true},
		{name: "left when based", kind: kind, way: leaving(basedCalled, nothing), held: asking, open: next, called: true, isLeft: true},
	}
}

// nodeStandings are those of jobs that have a node of their own.
func nodeStandings(kind int) []standing {
	at := own(kind)
	holding := func(phase, stamp int, values ...string) api.Held {
		return api.Held{Phase: phase, Place: at, Stamp: stamp, Values: values}
	}
	drop := []api.Op{drops(at)}
	var said []string
	in1 := standing{name: "in", kind: kind, way: in, held: holding(api.HeldIn, 9), watch: seeing}
	left1 := standing{name: "left when in", kind: kind, way: leaving(in, unwatchingAndDropping), held: holding(api.HeldAsking, 9), open: drop, isLeft: true}
	switch kind {
	case api.JobLock:
		in1.watch, left1.way = noWatch, leaving(in, dropping)
	case api.JobElect:
		said = []string{"you"}
		in1.held.Values, left1.held.Values = []string{"me"}, []string{"me"}
		in1.picture = picture{9, seen("/l", "", at, "me")}
	case api.JobBarrier:
		in1.picture = picture{9, bare("/l", two(kind), at)}
	}
	done := left1
	done.name, done.open = "left when in, and done", nil
	done.held = api.Held{Phase: api.HeldDone, Stamp: 12, Values: left1.held.Values}
	done.way = func(l *life) {
		left1.way(l)
		l.asked(results(12, api.Result{Place: at}))
	}
	late := standing{name: "left when waiting", kind: kind, way: leaving(waiting, dropping), held: holding(api.HeldAsking, 0), open: drop, late: true, isLeft: true}
	lateDone := late
	lateDone.name, lateDone.held, lateDone.open = "left when waiting, and done", api.Held{Phase: api.HeldDone, Stamp: 12}, nil
	lateDone.way = func(l *life) {
		late.way(l)
		l.asked(results(12, api.Result{Place: at}))
	}
	return []standing{
		{name: "waiting", kind: kind, way: waiting, held: holding(api.HeldWaiting, 0), watch: unknown},
		{name: "waiting, known", kind: kind, way: waitingKnown, held: holding(api.HeldWaiting, 0), watch: known},
		{name: "waiting, seeing", kind: kind, way: waitingSeeing, held: holding(api.HeldWaiting, 0, said...), watch: seeing, picture: aside(kind)},
		in1, left1, done, late, lateDone,
		{name: "left when known", kind: kind, way: leaving(waitingKnown, unwatchingAndDropping), held: holding(api.HeldAsking, 0), open: drop, isLeft: true},
		{name: "left when seeing", kind: kind, way: leaving(waitingSeeing, unwatchingAndDropping), held: holding(api.HeldAsking, 0, said...), open: drop, isLeft: true},
	}
}

func lockStandings() []standing {
	held := api.Held{Phase: api.HeldWaiting, Place: own(api.JobLock)}
	leaves := held
	leaves.Phase = api.HeldAsking
	list := []api.Op{lists("/l")}
	called := func(l *life) {
		looking(l)
		l.calls()
	}
	return []standing{
		{name: "entered", kind: api.JobLock, way: entered, held: held, open: list},
		{name: "looking", kind: api.JobLock, way: looking, held: held, open: list},
		{name: "looking, called", kind: api.JobLock, way: called, held: held, open: list, called: true},
		{name: "left when looking", kind: api.JobLock, way: leaving(called, nothing), held: leaves, open: list, called: true, isLeft: true},
	}
}

func counterStandings() []standing {
	kind := api.JobCounter
	set := []api.Op{sets("/l", "7", 4)}
	held := api.Held{Phase: api.HeldAsking}
	once7 := api.Held{Phase: api.HeldAsking, Stamp: 7, Values: []string{"7"}}
	called := func(l *life) {
		setting(l)
		l.calls()
	}
	return []standing{
		{name: "setting", kind: kind, way: called, held: held, open: set, called: true},
		{name: "once", kind: kind, way: once, held: once7, open: []api.Op{gets("/l")}},
		{name: "twice", kind: kind, way: twice, held: api.Held{Phase: api.HeldDone, Stamp: 10, Values: []string{"7", "8"}}},
		{name: "left when setting", kind: kind, way: leaving(called, nothing), held: held, open: set, called: true, isLeft: true},
		{name: "left behind once", kind: kind, way: leaving(once, nothing), held: once7, open: []api.Op{gets("/l")}, isLeft: true},
	}
}

func putStandings() []standing {
	kind := api.JobPut
	next := []api.Op{ownOp(jobOf(kind))}
	once7 := api.Held{Phase: api.HeldAsking, Place: two(kind), Stamp: 7, Values: []string{"it"}}
	return []standing{
		{name: "once", kind: kind, way: once, held: once7, open: next},
		{name: "twice", kind: kind, way: twice, held: api.Held{Phase: api.HeldDone, Place: own(kind), Stamp: 10, Values: []string{"it", "it"}}},
		{name: "left behind once", kind: kind, way: leaving(once, nothing), held: once7, open: next, isLeft: true},
	}
}

func takeStandings() []standing {
	kind := api.JobTake
	list, take := []api.Op{lists("/l")}, []api.Op{gets(two(kind)), drops(two(kind))}
	asks, waits, done := api.Held{Phase: api.HeldAsking}, api.Held{Phase: api.HeldWaiting}, api.Held{Phase: api.HeldDone}
	once7 := api.Held{Phase: api.HeldAsking, Place: two(kind), Stamp: 7, Values: []string{"it"}}
	once10 := once7
	once10.Stamp = 10
	sees8 := picture{8, bare("/l", two(kind))}
	return []standing{
		{name: "taking", kind: kind, way: taking, held: asks, open: take},
		{name: "once", kind: kind, way: once, held: once7, open: list},
		{name: "twice", kind: kind, way: twice, held: api.Held{Phase: api.HeldDone, Place: own(kind), Stamp: 10, Values: []string{"it", "that"}}},
		{name: "waiting", kind: kind, way: waiting, held: waits, watch: unknown},
		{name: "waiting, known", kind: kind, way: waitingKnown, held: waits, watch: known},
		{name: "waiting, seeing", kind: kind, way: waitingSeeing, held: waits, watch: seeing, picture: aside(kind)},
		{name: "woken", kind: kind, way: woken, held: waits, open: list, watch: seeing, picture: sees8},
		{name: "woken, taking", kind: kind, way: wokenTaking, held: waits, open: take, watch: seeing, picture: sees8},
		{name: "woken in vain", kind: kind, way: wokenInVain, held: waits, watch: seeing, picture: sees8},
		{name: "woken, once", kind: kind, way: wokenOnce, held: once10, open: list, watch: seeing, picture: sees8},
		{name: "left when taking", kind: kind, way: leaving(taking, nothing), held: asks, open: take, isLeft: true},
		{name: "left when waiting", kind: kind, way: leaving(waiting, nothing), held: done, late: true, isLeft: true},
		{name: "left when known", kind: kind, way: leaving(waitingKnown, unwatching), held: done, isLeft: true},
		{name: "left when seeing", kind: kind, way: leaving(waitingSeeing, unwatching), held: done, isLeft: true},
		{name: "left when woken", kind: kind, way: leaving(wokenTaking, unwatching), held: asks, open: take, isLeft: true},
	}
}

func (s standing) job() api.Job { return jobOf(s.kind) }

// watchOf is what the watch that a job of the kind wishes for is of.
func watchOf(kind int) api.Wish {
	return map[int]api.Wish{
		api.JobLock: watches(two(kind), api.WatchNode), api.JobElect: watches("/l", api.WatchSubtree), api.JobBarrier: watches("/l", api.WatchKids), api.JobTake: watches("/l", api.WatchKids),
	}[kind]
}

// live is a machine that stands so.
func (s standing) live(t *testing.T) *life {
	t.Helper()
	l := born(t, s.job())
	s.way(l)
	return l
}

func (s standing) String() string { return fmt.Sprintf("of kind %d, %s", s.kind, s.name) }

// number is that of the open request, or 0.
func (s standing) number(l *life) int {
	if s.called {
		return l.request
	}
	return 0
}

// eachStanding looks at all of them.
func eachStanding(t *testing.T, look func(t *testing.T, s standing)) {
	t.Helper()
	for _, s := range standings() {
		t.Run(s.String(), func(t *testing.T) { look(t, s) })
	}
}

// is holds that a machine shows what is known of a standing.
func (s standing) is(l *life) {
	l.t.Helper()
	if got := l.m.Sight(); !same(got, s.held) {
		l.t.Errorf("%s: Sight is %+v, want %+v", s, got, s.held)
	}
}

// TestStandings: the machine shows what is known of each standing; Sight itself changes nothing.
func TestStandings(t *testing.T) {
	eachStanding(t, func(t *testing.T, s standing) {
		l := s.live(t)
		s.is(l)
		s.is(l)
		if (s.held.Phase == api.HeldOut || s.held.Phase == api.HeldDone) && (s.open != nil || s.watch != noWatch) {
			t.Error("a standing that can't be")
		}
	})
}
