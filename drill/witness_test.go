package drill_test

import (
	"slices"
	"strconv"
	"strings"
	"testing"

	"herald/api"
	"herald/audit"
	"herald/drill"
	"herald/state"
)

// witness holds a drill, step by step, against P0.11 and P21.7: by what it tells and shows, and a plain machine that plays the history.
type witness struct {
	t       *testing.T
	d       *drill.Drill
	g       *again // the same drill by other means
	rules   api.Rules
	jobs    []api.Job
	told    []api.Told
	machine *state.Machine        // it has played the history
	rivals  []map[string][]string // by stamps: the places of each family's nodes, in order
	nodes   map[string]*node      // all that any family ever had, by their places
	sets    map[string]int        // of each counter's base
	claims  []claim
	guests  []guest        // by their numbers
	taken   map[string]int // the items that takers were told to have, by their places
	seen    map[string]int
}

// node is one of a family.
type node struct {
	data          string
	made, session int
}

// claim is what a recipe that is in says.
type claim struct {
	client, session int
	job             api.Job
	place           string
	stamp           int
}

// guest is what is to be known of a client by what it was told.
type guest struct {
	session int // 0: it has none
	calls   map[int][]api.Op
	values  []string // that its recipe should have
	own     []int    // the ids of watches that the script has asked for
	claim   claim    // the last one
}

func witnessOf(t *testing.T, rules api.Rules, seen map[string]int, jobs ...api.Job) *witness {
	t.Helper()
	x := &witness{t: t, d: begun(t, rules, jobs...), g: againOf(rules, jobs...), rules: rules, jobs: jobs, seen: seen}
	x.machine, x.nodes, x.sets, x.taken = state.New(), map[string]*node{}, map[string]int{}, map[string]int{}
	x.guests = make([]guest, rules.Clients+1)
	x.rivals = append(x.rivals, map[string][]string{})
	return x
}

// familyOf is what the places of a job's nodes begin with: those who do the same job at one base have one. A counter has none.
func familyOf(job api.Job) string {
	if nameOf(job.Kind) == "" {
		return ""
	}
	return strings.TrimRight(job.Base, "/") + "/" + nameOf(job.Kind)
}

func isBrief(kind int) bool {
	return kind == api.JobLock || kind == api.JobElect || kind == api.JobBarrier
}

// isIn tells whether a place is that of one of a family's nodes.
func isIn(family, at string) bool {
	digits, isOne := strings.CutPrefix(at, family)
	return family != "" && isOne && len(digits) == 5 && strings.Trim(digits, "0123456789") == ""
}

// jobOf is a client's, or none.
func (x *witness) jobOf(client int) api.Job {
	if client > len(x.jobs) {
		return api.Job{}
	}
	return x.jobs[client-1]
}

// play plays a step, and holds all that is seen behind it against the promises.
func (x *witness) play(s api.Step) api.Errno {
	x.t.Helper()
	told, code := x.d.Step(s)
	want, wantCode := x.g.step(s)
	if code != wantCode || !same(told, want) {
		x.t.Fatalf("P21.2: the step %s = %d, %s\nwant %d, %s", tell(s), code, tell(told), wantCode, tell(want))
	}
	x.readHistory()
	for _, k := range told {
		x.hears(k, s)
	}
	x.told = append(x.told, told...)
	x.lookAtSights()
	x.seen["step "+strconv.Itoa(s.Kind)+" "+strconv.Itoa(int(code))]++
	return code
}

// readHistory plays what is new of the history.
func (x *witness) readHistory() {
	x.t.Helper()
	for _, e := range x.d.World().History()[x.machine.Last():] {
		reply, changes, code := x.machine.Apply(e)
		if code != api.OK {
			x.t.Fatalf("P0.1: the machine refuses the entry %s with %d", tell(e), code)
		}
		x.learn(e, changes)
		if reply.Code == api.OK {
			x.count(e)
		}
		x.seen["entries"]++
	}
}

// learn takes up what families have behind an entry.
func (x *witness) learn(e api.Entry, changes []api.Change) {
	x.t.Helper()
	tree, _ := x.machine.Part("/", api.WatchSubtree)
	now := map[string][]string{}
	for _, family := range x.families() {
		for _, n := range tree.Nodes {
			if isIn(family, n.Place) {
				now[family] = append(now[family], n.Place)
			}
		}
		for _, c := range changes {
			if c.Kind == api.ChangeMade && isIn(family, c.Place) {
				x.learnNode(family, c, e)
			}
		}
	}
	x.rivals = append(x.rivals, now)
	for _, c := range x.claims {
		x.isLowest(c, e.Stamp)
	}
	x.lookAtOwners(now)
}

// learnNode: a family's node is made once, by the session of a client that does the job.
func (x *witness) learnNode(family string, c api.Change, e api.Entry) {
	x.t.Helper()
	if x.nodes[c.Place] != nil {
		x.t.Errorf("%s is made a second time", c.Place)
	}
	if client := e.Session % api.MaxSlots; familyOf(x.jobOf(client)) != family {
		x.t.Errorf("%s is made by the client %d, whose job is %+v", c.Place, client, x.jobOf(client))
	}
	x.nodes[c.Place] = &node{data: c.Data, made: e.Stamp, session: e.Session}
}

// families are those of all jobs.
func (x *witness) families() []string {
	var all []string
	for _, job := range x.jobs {
		if family := familyOf(job); family != "" && !slices.Contains(all, family) {
			all = append(all, family)
		}
	}
	return all
}

// lookAtOwners: P0.11, who has the lowest node of locks or elections is one session, and that is open.
func (x *witness) lookAtOwners(now map[string][]string) {
	x.t.Helper()
	open := x.machine.Sessions()
	for _, job := range x.jobs {
		for _, at := range now[familyOf(job)] {
			if isBrief(job.Kind) && !slices.Contains(open, x.nodes[at].session) {
				x.t.Errorf("P0.11: %s is there, and its session %d is not open", at, x.nodes[at].session)
			}
		}
	}
}

// isLowest: P0.11 and P21.7, behind an entry the node of who is in is the lowest one, if it is there.
func (x *witness) isLowest(c claim, stamp int) {
	x.t.Helper()
	if c.job.Kind == api.JobBarrier {
		return
	}
	all := x.rivals[stamp][familyOf(c.job)]
	if slices.Contains(all, c.place) && all[0] != c.place {
		x.t.Errorf("P21.7: the client %d is in by %s since %d, and behind the entry %d there are %v", c.client, c.place, c.stamp, stamp, all)
	}
}

// count: P0.11, each step of a counter is done once: whoever sets the next number, sets that behind the last one that was set.
func (x *witness) count(e api.Entry) {
	x.t.Helper()
	for _, o := range e.Ops {
		if o.Kind != api.OpSet || x.jobOf(e.Session%api.MaxSlots) == (api.Job{}) || o.Place != x.jobOf(e.Session%api.MaxSlots).Base {
			continue
		}
		x.sets[o.Place]++
		if o.Data != strconv.Itoa(x.sets[o.Place]) {
			x.t.Errorf("P0.11: the set number %d of %s sets %q", x.sets[o.Place], o.Place, o.Data)
		}
		x.seen["sets"]++
	}
}

// hears takes up what a client was told.
func (x *witness) hears(k api.Told, s api.Step) {
	x.t.Helper()
	g := &x.guests[k.Client]
	switch k.Kind {
	case api.ToldBegin:
		g.session, g.calls, g.own = k.Session, map[int][]api.Op{}, nil
	case api.ToldEnd, api.ToldGone:
		g.session, g.calls, g.own = 0, nil, nil
	case api.ToldCall:
		g.calls[k.Request] = k.Ops
	case api.ToldReply:
		if k.Reply.Code == api.OK {
			x.hearsReply(k.Client, g.calls[k.Request], k.Reply)
		}
	case api.ToldWatch:
		if s.Kind == api.StepWatch && s.A == k.Client {
			g.own = append(g.own, k.Watch.Id)
		}
	case api.ToldItem:
		if k.Item.Marker {
			x.seen["markers"]++
		}
	}
	x.seen["told "+strconv.Itoa(k.Kind)]++
}

// hearsReply: P0.11, nothing that was put is taken by two, and nothing is taken that was not put.
func (x *witness) hearsReply(client int, ops []api.Op, r api.Reply) {
	x.t.Helper()
	g, job := &x.guests[client], x.jobOf(client)
	switch {
	case job.Kind == api.JobCounter && ops[0].Kind == api.OpSet && ops[0].Place == job.Base:
		g.values = append(g.values, ops[0].Data)
	case job.Kind == api.JobPut && ops[0].Kind == api.OpMake && ops[0].Place == familyOf(job):
		g.values = append(g.values, job.Data)
		if n := x.nodes[r.Results[0].Place]; n == nil || n.data != job.Data || n.made != r.Stamp {
			x.t.Errorf("%s was put as %+v", r.Results[0].Place, n)
		}
		x.seen["items put"]++
	case job.Kind == api.JobTake && len(ops) == 2 && isIn(familyOf(job), ops[0].Place):
		g.values = append(g.values, r.Results[0].Data)
		at := ops[0].Place
		if x.taken[at]++; x.taken[at] > 1 || x.nodes[at] == nil || x.nodes[at].data != r.Results[0].Data {
			x.t.Errorf("P0.11: %s is taken %d times; it was put as %+v", at, x.taken[at], x.nodes[at])
		}
		if slices.Contains(x.rivals[r.Stamp][familyOf(job)], at) {
			x.t.Errorf("P0.11: %s is taken at %d, and still there", at, r.Stamp)
		}
		x.seen["items taken"]++
	}
}

// lookAtSights holds what the recipes show.
func (x *witness) lookAtSights() {
	x.t.Helper()
	sights := x.d.Sights()
	if !same(sights, x.g.sights()) {
		x.t.Fatalf("P21.4: Sights is %s\nwant %s", tell(sights), tell(x.g.sights()))
	}
	in := map[string]int{}
	for i, h := range sights {
		job, g := x.jobOf(i+1), &x.guests[i+1]
		switch job.Kind {
		case api.JobCounter, api.JobPut, api.JobTake:
			if !same(h.Values, g.values) {
				x.t.Errorf("P0.11: the job %+v has %q, and has heard of %q", job, h.Values, g.values)
			}
		}
		if h.Phase != api.HeldIn {
			continue
		}
		c := claim{i + 1, g.session, job, h.Place, h.Stamp}
		if c != g.claim {
			g.claim = c
			x.hearsClaim(c)
		}
		if slices.Contains(x.rivals[x.machine.Last()][familyOf(job)], h.Place) && job.Kind != api.JobBarrier {
			in[familyOf(job)]++
		}
	}
	for family, count := range in {
		if count > 1 {
			x.t.Errorf("P0.11: %d of %s are in", count, family)
		}
	}
	x.lookAtCounters()
}

// lookAtCounters: P0.11, no two have counted one number.
func (x *witness) lookAtCounters() {
	x.t.Helper()
	type number struct{ base, value string }
	had := map[number]bool{}
	for k, g := range x.guests {
		if k == 0 || x.jobOf(k).Kind != api.JobCounter {
			continue
		}
		for _, v := range g.values {
			one := number{x.jobOf(k).Base, v}
			if n, _ := strconv.Atoi(v); had[one] || n < 1 || n > x.sets[one.base] {
				x.t.Errorf("P0.11: %s was counted twice, or not at all, behind %d sets of %s", v, x.sets[one.base], one.base)
			}
			had[one] = true
		}
	}
}

// hearsClaim holds what a recipe says that has come in just now.
func (x *witness) hearsClaim(c claim) {
	x.t.Helper()
	family := familyOf(c.job)
	x.seen["in "+nameOf(c.job.Kind)]++
	if c.stamp < 1 || c.stamp > x.machine.Last() {
		x.t.Fatalf("P21.7: in by %s since %d, at %d", c.place, c.stamp, x.machine.Last())
	}
	all := x.rivals[c.stamp][family]
	if c.job.Kind == api.JobBarrier {
		if len(all) < c.job.Size {
			x.t.Errorf("P0.11: the client %d is in since %d, where %d were to be there, and there are %v", c.client, c.stamp, c.job.Size, all)
		}
		return
	}
	n := x.nodes[c.place]
	if len(all) == 0 || all[0] != c.place || n == nil || n.session != c.session {
		x.t.Fatalf("P21.7: the client %d of the session %d is in by %s (%+v) since %d, where there are %v", c.client, c.session, c.place, n, c.stamp, all)
	}
	for stamp := c.stamp; stamp < len(x.rivals); stamp++ {
		x.isLowest(c, stamp)
	}
	for _, other := range x.claims {
		if familyOf(other.job) == family && (x.nodes[other.place].made < n.made) != (other.stamp < c.stamp) {
			x.t.Errorf("P0.11: %s was made at %d and is in since %d; %s was made at %d and is in since %d", c.place, n.made, c.stamp, other.place, x.nodes[other.place].made, other.stamp)
		}
	}
	x.claims = append(x.claims, c)
}

// audits holds all that was told against the history.
func (x *witness) audits() {
	x.t.Helper()
	if code, at := audit.Check(x.d.World().History(), x.told); code != api.OK {
		x.t.Errorf("P19.5: the thing %d that was told is refused with %d: %s", at, code, tell(x.told[at]))
	}
}
