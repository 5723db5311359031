package client_test

import (
	"maps"
	"slices"

	"herald/api"
	"herald/note"
	"herald/place"
	"herald/shot"
)

// again is a client reckoned a second time, word by word along the chapter: its watches stand in a map for each standing.
type again struct {
	number, nodes       int
	view                api.View
	conn, begun, top    int
	phase               string // "" of one that nobody made
	session, last       int
	resumed             bool
	request             int
	pending             *api.Note // the NoteCall of the request that is pending
	asked, left, watchs map[int]api.Watch
	pictures            map[int]api.Shot

	// Of the call that goes on:
	says  []api.Told
	posts []api.Message
}

func startAgain(number, nodes int) *again {
	g := &again{number: number, nodes: nodes, view: viewOf(1, 1, min(2, nodes)), phase: "none"}
	if nodes == 1 {
		g.view.Backup = 0
	}
	g.blank(0)
	return g
}

// blank is a client with a session of which it knows nothing, or with none.
func (g *again) blank(session int) {
	g.session, g.last, g.resumed, g.request, g.pending = session, 0, false, 0, nil
	g.asked, g.left, g.watchs, g.pictures = map[int]api.Watch{}, map[int]api.Watch{}, map[int]api.Watch{}, map[int]api.Shot{}
}

// done is what a call has answered.
func (g *again) done(code api.Errno) answer {
	a := answer{g.says, g.posts, code}
	g.says, g.posts = nil, nil
	return a
}

func (g *again) tell(t api.Told) {
	t.Session = g.session
	g.says = append(g.says, t)
}

func (g *again) post(to int, n api.Note) {
	m, code := note.Message(100+g.number, to, n)
	if code != api.OK {
		panic("a second reckoning that sends what is no note")
	}
	g.posts = append(g.posts, m)
}

// post1 posts to the primary.
func (g *again) post1(n api.Note) {
	n.Session = g.session
	g.post(g.view.Primary, n)
}

func (g *again) asksAll() {
	switch g.phase {
	case "opening":
		g.post1(opens(0))
	case "ending":
		g.post1(closes(0))
	case "open":
		if g.resumed {
			g.asksCall()
			g.asksMoves()
		} else {
			g.asksResume()
			g.asksCall()
		}
	}
}

func (g *again) asksResume() {
	n := resumes(0, g.conn, g.last)
	for _, id := range slices.Sorted(maps.Keys(g.pictures)) {
		w := g.watchs[id]
		w.From = g.pictures[id].Stamp
		n.Watches = append(n.Watches, w)
	}
	g.post1(n)
}

func (g *again) asksCall() {
	if g.pending != nil {
		g.post1(*g.pending)
	}
}

func (g *again) asksMoves() {
	both := maps.Clone(g.asked)
	maps.Copy(both, g.left)
	for _, id := range slices.Sorted(maps.Keys(both)) {
		if _, isLeft := g.left[id]; isLeft {
			g.post1(unwatches(0, g.conn, id))
		} else {
			g.post1(watches(0, g.conn, g.asked[id]))
		}
	}
}

func (g *again) connects() {
	g.conn = min(g.conn+1, most)
	g.resumed = false
}

func (g *again) begins() answer {
	next := g.number + 16*g.begun
	switch {
	case g.phase != "none" && g.phase != "ending":
		return g.done(api.ErrClient)
	case next > most:
		return g.done(api.ErrNumber)
	}
	g.begun++
	g.blank(next)
	g.phase = "opening"
	g.tell(told(api.ToldBegin, 0))
	g.asksAll()
	return g.done(api.OK)
}

func (g *again) calls(ops []api.Op) answer {
	isLong, isWrong := len(ops) > 4, false
	for _, o := range ops {
		isLong = isLong || len(o.Place) > 256 || len(o.Data) > 256
		isWrong = isWrong || min(o.Kind, o.Flags, o.Version+1) < 0 || max(o.Kind, o.Flags, o.Version) > most
	}
	switch {
	case isLong:
		return g.done(api.ErrLong)
	case isWrong:
		return g.done(api.ErrArg)
	case g.phase != "open" || g.pending != nil:
		return g.done(api.ErrClient)
	case g.request == most:
		return g.done(api.ErrNumber)
	}
	g.request++
	n := calls(0, g.request, slices.Clone(ops)...)
	g.pending = &n
	g.tell(toldCall(0, g.request, n.Ops...))
	g.asksCall()
	return g.done(api.OK)
}

func (g *again) watches(at string, kind int) answer {
	_, code := place.Parse(at)
	switch {
	case code != api.OK:
		return g.done(api.ErrPlace)
	case kind != api.WatchNode && kind != api.WatchKids && kind != api.WatchSubtree:
		return g.done(api.ErrArg)
	case g.phase != "open":
		return g.done(api.ErrClient)
	case len(g.asked)+len(g.left)+len(g.pictures) == 4:
		return g.done(api.ErrFull)
	case g.top == most:
		return g.done(api.ErrNumber)
	}
	g.top++
	w := watch(g.top, at, kind, 0)
	g.asked[g.top] = w
	g.tell(toldOf(api.ToldWatch, 0, w))
	if g.resumed {
		g.post1(watches(0, g.conn, w))
	}
	return g.done(api.OK)
}

func (g *again) unwatches(id int) answer {
	w, isAsked := g.asked[id]
	if !isAsked {
		w = g.watchs[id]
	}
	if g.phase != "open" || w.Id == 0 {
		return g.done(api.ErrClient)
	}
	delete(g.asked, id)
	delete(g.watchs, id)
	delete(g.pictures, id)
	g.left[id] = w
	g.tell(toldOf(api.ToldUnwatch, 0, w))
	if g.resumed {
		g.post1(unwatches(0, g.conn, id))
	}
	return g.done(api.OK)
}

func (g *again) ends() answer {
	if g.phase != "opening" && g.phase != "open" {
		return g.done(api.ErrClient)
	}
	last := g.last
	g.blank(g.session)
	g.last, g.phase = last, "ending"
	g.tell(told(api.ToldEnd, 0))
	g.asksAll()
	return g.done(api.OK)
}

func (g *again) ticks() answer {
	g.post(0, asks())
	if g.phase == "open" {
		g.post1(beats(0, g.conn))
	}
	g.asksAll()
	return g.done(api.OK)
}

func (g *again) parts() []api.Part {
	var list []api.Part
	for _, id := range slices.Sorted(maps.Keys(g.pictures)) {
		list = append(list, api.Part{Id: id, Shot: g.pictures[id]})
	}
	return list
}

func (g *again) takes(m api.Message) answer {
	n, code := note.Open(m)
	if m.To != 100+g.number || code != api.OK {
		return g.done(api.OK)
	}
	switch {
	case n.Kind == api.NoteTell && m.From == 0, n.Kind == api.NoteElsewhere && m.From >= 1 && m.From <= g.nodes:
		g.takesView(n.View)
	case n.Kind < api.NoteOpened || n.View.Num < g.view.Num || g.phase == "none" || n.Session != g.session:
	case n.Kind == api.NoteOpened && g.phase == "opening":
		g.takesOpened(n.Code)
	case n.Kind == api.NoteGone && (g.phase == "open" || g.phase == "ending"):
		g.loses(api.OK)
	case g.phase != "open":
	case n.Kind == api.NoteAnswer && g.pending != nil && n.Request == g.pending.Request:
		g.pending = nil
		g.tell(toldReply(0, n.Request, n.Reply))
	case n.Conn == g.conn:
		g.takesOfConn(n)
	}
	return g.done(api.OK)
}

func (g *again) takesView(v api.View) {
	if v.Num <= g.view.Num || v.Primary < 1 || v.Primary > g.nodes {
		return
	}
	g.view = v
	if g.phase == "open" {
		g.connects()
	}
	g.asksAll()
}

func (g *again) takesOpened(code api.Errno) {
	if code != api.OK {
		g.loses(code)
		return
	}
	g.phase = "open"
	g.connects()
	g.tell(told(api.ToldBegun, 0))
	g.asksAll()
}

func (g *again) loses(code api.Errno) {
	g.tell(toldGone(0, code))
	g.phase = "none"
	g.blank(0)
}

func (g *again) takesOfConn(n api.Note) {
	switch n.Kind {
	case api.NoteResumed:
		if n.Code == api.OK && !g.resumed {
			g.resumed = true
			g.asksMoves()
		} else if n.Code != api.OK && g.resumed {
			g.connects()
			g.asksAll()
		}
	case api.NoteWatched:
		if w, isAsked := g.asked[n.Parts[0].Id]; isAsked {
			g.takesWatched(w, n.Code, n.Parts[0])
		}
	case api.NoteUnwatched:
		if _, isLeft := g.left[n.Watches[0].Id]; isLeft {
			delete(g.left, n.Watches[0].Id)
			g.connects()
			g.asksAll()
		}
	case api.NoteDeliver:
		g.takesItems(n)
	}
}

func (g *again) takesWatched(w api.Watch, code api.Errno, p api.Part) {
	s := p.Shot
	switch {
	case code != api.OK:
		delete(g.asked, w.Id)
		g.tell(toldRefused(0, w, code))
	case s.Place == w.Place && s.Kind == w.Kind && shot.Check(s) == api.OK && s.Stamp >= g.last:
		delete(g.asked, w.Id)
		g.watchs[w.Id], g.pictures[w.Id] = w, s
		g.tell(toldGranted(0, p))
		g.connects()
		g.asksAll()
	}
}

func (g *again) takesItems(n api.Note) {
	for _, item := range n.Items {
		if item.Stamp <= g.last || !item.Marker && item.After > g.last {
			continue
		}
		var below []int
		for id, picture := range g.pictures {
			if picture.Stamp < item.Stamp {
				below = append(below, id)
			}
		}
		for _, id := range below {
			if !slices.Contains(n.Watches, api.Watch{Id: id}) {
				g.connects()
				g.asksAll()
				return
			}
		}
		g.last = item.Stamp
		if item.Marker {
			g.takesMarker(item)
		} else {
			g.takesEvent(item, below)
		}
	}
	g.post1(took(0, g.conn, g.last))
}

func (g *again) takesMarker(item api.Item) {
	said := marker(item.Stamp, item.After)
	for _, p := range item.Parts {
		old, isGranted := g.pictures[p.Id]
		w, s := g.watchs[p.Id], p.Shot
		if isGranted && s.Place == w.Place && s.Kind == w.Kind && s.Stamp == item.Stamp && shot.Check(s) == api.OK && old.Stamp < s.Stamp {
			g.pictures[p.Id] = s
			said.Parts = append(said.Parts, p)
		}
	}
	if len(said.Parts) > 0 {
		g.tell(toldItem(0, said))
	}
}

func (g *again) takesEvent(item api.Item, below []int) {
	said := event(item.Stamp, item.After)
	its := map[int][]api.Change{}
	for _, c := range item.Changes {
		kept := api.Tagged{Change: c.Change}
		for _, id := range c.Tags {
			if slices.Contains(below, id) {
				kept.Tags = append(kept.Tags, id)
				its[id] = append(its[id], c.Change)
			}
		}
		if len(kept.Tags) > 0 {
			said.Changes = append(said.Changes, kept)
		}
	}
	for _, id := range below {
		if next, code := shot.Fold(g.pictures[id], item.Stamp, its[id]); code == api.OK {
			g.pictures[id] = next
		}
	}
	if len(said.Changes) > 0 {
		g.tell(toldItem(0, said))
	}
}
