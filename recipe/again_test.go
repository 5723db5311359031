package recipe_test

import (
	"regexp"
	"slices"
	"strconv"

	"herald/api"
	"herald/place"
	"herald/shot"
)

// again is a machine reckoned a second time, word by word along the chapter: one struct for all kinds, and a word for what the open request is for.
type again struct {
	job    api.Job
	held   api.Held
	left   bool
	open   string // what it asked: base, own, list, get, set, two, drop; "" if none is open
	ops    []api.Op
	number int
	made   int

	watch   api.Wish // the WishWatch; zero: it has none
	id      int
	granted bool
	picture api.Shot
	late    []api.Wish // the WishWatches of those that are to be given up

	says []api.Wish
}

func startAgain(job api.Job) *again { return &again{job: job} }

// done is what a call has answered.
func (g *again) done() []api.Wish {
	says := g.says
	g.says = nil
	return says
}

func (g *again) asks(open string, ops ...api.Op) {
	g.open, g.ops, g.number = open, ops, 0
	g.says = append(g.says, does(slices.Clone(ops)...))
}

func (g *again) asksBase() {
	data := map[bool]string{true: "0"}[g.job.Kind == api.JobCounter]
	g.asks("base", makes(g.job.Base, data, 0))
}

func (g *again) watches(at string, kind int) {
	g.watch, g.id, g.granted, g.picture = watches(at, kind), 0, false, api.Shot{}
	g.says = append(g.says, g.watch)
}

// forgets forgets the watch; whether it is to be given up, too, is the caller's.
func (g *again) forgets() {
	g.watch, g.id, g.granted, g.picture = api.Wish{}, 0, false, api.Shot{}
}

func (g *again) givesUp() {
	switch {
	case g.watch.Kind == 0:
	case g.id != 0:
		g.says = append(g.says, unwatches(g.id))
	default:
		g.late = append(g.late, g.watch)
	}
	g.forgets()
}

func (g *again) isOver() bool { return g.held.Phase == api.HeldOut || g.held.Phase == api.HeldDone }

func (g *again) loses(code api.Errno) {
	g.open = ""
	g.givesUp()
	if at := g.held.Place; isBrief(g.job.Kind) && at != "" && code != api.ErrNoNode && code != api.ErrSession {
		g.says = append(g.says, does(drops(at)))
	}
	g.held.Phase, g.held.Code, g.held.Place = api.HeldOut, code, ""
}

func (g *again) begins() []api.Wish {
	if g.held.Phase == api.HeldOut && !g.left {
		values := g.held.Values
		if isBrief(g.job.Kind) {
			values = nil
		}
		g.held = api.Held{Phase: api.HeldAsking, Values: values}
		g.asksBase()
	}
	return g.done()
}

func (g *again) leaves() []api.Wish {
	was := g.left
	g.left = true
	switch {
	case g.held.Phase == api.HeldOut:
		g.held.Phase = api.HeldDone
	case g.held.Phase == api.HeldDone || was:
	default:
		g.held.Phase = api.HeldAsking
		g.givesUp()
		if g.open == "" {
			g.quits()
		}
	}
	return g.done()
}

func (g *again) quits() {
	if isBrief(g.job.Kind) && g.held.Place != "" {
		g.asks("drop", drops(g.held.Place))
		return
	}
	g.held.Phase = api.HeldDone
}

func (g *again) hears(t api.Told) []api.Wish {
	switch t.Kind {
	case api.ToldEnd, api.ToldGone:
		g.late = nil
		g.forgets()
		if g.isOver() {
			break
		}
		g.open, g.held.Place = "", ""
		if g.left {
			g.held.Phase = api.HeldDone
		} else {
			g.held.Phase, g.held.Code = api.HeldOut, api.ErrSession
		}
	case api.ToldCall:
		if g.open != "" && g.number == 0 && slices.Equal(t.Ops, g.ops) {
			g.number = t.Request
		}
	case api.ToldReply:
		if g.open != "" && g.number != 0 && g.number == t.Request {
			g.hearsAnswer(t.Reply)
		}
	case api.ToldWatch:
		g.hearsWatch(t.Watch)
	case api.ToldWatched:
		g.hearsGrant(t)
	case api.ToldItem:
		g.hearsItem(t.Item)
	}
	return g.done()
}

func (g *again) hearsWatch(w api.Watch) {
	for i, l := range g.late {
		if l.Place == w.Place && l.Watch == w.Kind {
			g.late = append(slices.Clone(g.late[:i]), g.late[i+1:]...)
			g.says = append(g.says, unwatches(w.Id))
			return
		}
	}
	if g.watch.Kind != 0 && g.id == 0 && g.watch.Place == w.Place && g.watch.Watch == w.Kind {
		g.id = w.Id
	}
}

func (g *again) hearsGrant(t api.Told) {
	switch {
	case g.watch.Kind == 0 || g.id == 0 || g.granted || t.Watch.Id != g.id:
	case t.Code != api.OK:
		g.forgets()
		g.loses(t.Code)
	default:
		g.granted, g.picture = true, t.Part.Shot
		g.sees()
	}
}

func (g *again) hearsItem(item api.Item) {
	if !g.granted {
		return
	}
	if item.Marker {
		for _, p := range item.Parts {
			if p.Id == g.id {
				g.picture = p.Shot
				g.sees()
				return
			}
		}
		return
	}
	var its []api.Change
	for _, c := range item.Changes {
		if slices.Contains(c.Tags, g.id) {
			its = append(its, c.Change)
		}
	}
	if len(its) == 0 {
		return
	}
	if next, code := shot.Fold(g.picture, item.Stamp, its); code == api.OK {
		g.picture = next
	}
	g.sees()
}

// names are the rivals' in a list.
func (g *again) names(list []string) []string {
	form := regexp.MustCompile(`\A` + nameOf(g.job.Kind) + `[0-9]{5}\z`)
	var names []string
	for _, name := range list {
		if form.MatchString(name) {
			names = append(names, name)
		}
	}
	slices.Sort(names)
	return names
}

// seen are the rivals' in the picture; and the data of each.
func (g *again) seen() ([]string, map[string]string) {
	var all []string
	data := map[string]string{}
	for _, n := range g.picture.Nodes {
		if parent, code := place.Parent(n.Place); code == api.OK && parent == g.job.Base {
			name, _ := place.Name(n.Place)
			all = append(all, name)
			data[name] = n.Data
		}
	}
	return g.names(all), data
}

func (g *again) at(name string) string {
	at, _ := place.Join(g.job.Base, name)
	return at
}

func (g *again) own() string {
	name, _ := place.Name(g.held.Place)
	return name
}

func (g *again) sees() {
	names, data := g.seen()
	isThere := slices.Contains(names, g.own())
	isLate := g.picture.Stamp >= g.made
	in := func() { g.held.Phase, g.held.Stamp = api.HeldIn, g.picture.Stamp }
	switch g.job.Kind {
	case api.JobLock:
		if len(g.picture.Nodes) == 0 {
			g.givesUp()
			g.asks("list", lists(g.job.Base))
		}
	case api.JobElect:
		if isThere {
			g.held.Values = []string{data[names[0]]}
			if names[0] == g.own() && g.held.Phase != api.HeldIn {
				in()
			}
		} else if isLate {
			g.loses(api.ErrNoNode)
		}
	case api.JobBarrier:
		switch {
		case g.held.Phase == api.HeldIn:
		case len(names) >= g.job.Size:
			in()
		case !isThere && isLate:
			g.loses(api.ErrNoNode)
		}
	case api.JobTake:
		if g.held.Phase == api.HeldWaiting && g.open == "" && len(names) > 0 {
			g.asks("list", lists(g.job.Base))
		}
	}
}

// code is that of an answer, as the chapter counts it.
func (g *again) code(r api.Reply) api.Errno {
	if r.Code != api.OK {
		return r.Code
	}
	if len(r.Results) != len(g.ops) {
		return api.ErrJob
	}
	if g.open == "own" {
		at := r.Results[0].Place
		if name, code := place.Name(at); code != api.OK || len(g.names([]string{name})) == 0 || g.at(name) != at {
			return api.ErrJob
		}
	}
	return api.OK
}

func (g *again) hearsAnswer(r api.Reply) {
	open, code := g.open, g.code(r)
	g.open = ""
	if code == api.OK {
		g.gains(open, r)
	}
	switch {
	case open == "drop":
		g.held.Phase, g.held.Stamp, g.held.Place = api.HeldDone, r.Stamp, ""
	case g.left:
		g.quits()
	case open == "base" && (code == api.ErrExists || code == api.ErrRoot):
		g.goesOn()
	case code != api.OK:
		g.fails(open, code)
	default:
		g.goesBehind(open, r)
	}
}

// gains is what an answer gives, also if it was left.
func (g *again) gains(open string, r api.Reply) {
	switch {
	case open == "own" && isBrief(g.job.Kind):
		g.held.Place, g.made = r.Results[0].Place, r.Results[0].Made
	case open == "own":
		g.held.Place = r.Results[0].Place
		g.counts(g.job.Data, r)
	case open == "set":
		g.counts(g.ops[0].Data, r)
	case open == "two":
		g.held.Place = g.ops[0].Place
		g.counts(r.Results[0].Data, r)
	}
}

func (g *again) counts(value string, r api.Reply) {
	g.held.Values, g.held.Stamp = append(slices.Clone(g.held.Values), value), r.Stamp
}

// goesOn is what comes behind the answer of P20.3.
func (g *again) goesOn() {
	switch g.job.Kind {
	case api.JobCounter:
		g.asks("get", gets(g.job.Base))
	case api.JobTake:
		g.asks("list", lists(g.job.Base))
	case api.JobPut:
		g.asks("own", makes(g.at(nameOf(g.job.Kind)), g.job.Data, api.FlagCounted))
	default:
		g.asks("own", makes(g.at(nameOf(g.job.Kind)), g.job.Data, api.FlagCounted+api.FlagBrief))
	}
}

func (g *again) fails(open string, code api.Errno) {
	switch {
	case open == "get" && code == api.ErrNoNode:
		g.asksBase()
	case open == "set" && (code == api.ErrNoNode || code == api.ErrVersion), open == "two" && code == api.ErrNoNode:
		g.goesOn()
	default:
		g.loses(code)
	}
}

// goesBehind is what comes behind an answer that is OK, of a machine that was not left.
func (g *again) goesBehind(open string, r api.Reply) {
	switch {
	case open == "base":
		g.goesOn()
	case open == "own" && isBrief(g.job.Kind):
		g.held.Phase = api.HeldWaiting
		switch g.job.Kind {
		case api.JobLock:
			g.asks("list", lists(g.job.Base))
		case api.JobElect:
			g.watches(g.job.Base, api.WatchSubtree)
		case api.JobBarrier:
			g.watches(g.job.Base, api.WatchKids)
		}
	case open == "own" || open == "set" || open == "two":
		g.held.Phase = api.HeldAsking
		if len(g.held.Values) == g.job.Size {
			g.held.Phase = api.HeldDone
			g.givesUp()
		} else {
			g.goesOn()
		}
	case open == "get":
		g.raises(r.Results[0])
	case open == "list" && g.job.Kind == api.JobLock:
		g.looks(r)
	case open == "list":
		g.picks(r)
	}
}

func (g *again) raises(at api.Result) {
	n, err := strconv.ParseUint(at.Data, 10, 31)
	switch {
	case err != nil || strconv.FormatUint(n, 10) != at.Data:
		g.loses(api.ErrJob)
	case n == 1<<31-1:
		g.loses(api.ErrNumber)
	default:
		g.asks("set", sets(g.job.Base, strconv.FormatUint(n+1, 10), at.Version))
	}
}

func (g *again) looks(r api.Reply) {
	names := g.names(r.Results[0].Kids)
	ahead := ""
	for _, name := range names {
		if name < g.own() {
			ahead = name
		}
	}
	switch {
	case !slices.Contains(names, g.own()):
		g.loses(api.ErrNoNode)
	case ahead == "":
		g.held.Phase, g.held.Stamp = api.HeldIn, r.Stamp
	default:
		g.watches(g.at(ahead), api.WatchNode)
	}
}

func (g *again) picks(r api.Reply) {
	if names := g.names(r.Results[0].Kids); len(names) > 0 {
		g.asks("two", gets(g.at(names[0])), drops(g.at(names[0])))
		return
	}
	g.held.Phase = api.HeldWaiting
	if g.watch.Kind == 0 {
		g.watches(g.job.Base, api.WatchKids)
	} else if names, _ := g.seen(); len(names) > 0 && g.picture.Stamp > r.Stamp {
		g.asks("list", lists(g.job.Base))
	}
}
