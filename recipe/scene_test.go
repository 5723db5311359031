package recipe_test

import (
	"slices"
	"strings"
	"testing"

	"herald/api"
	"herald/fan"
	"herald/place"
	"herald/state"
)

// scene is several machines with jobs at one base, of clients with sessions of their own, played against a plain tree: requests are played one by one; replies, grants and items come late, but each kind in order.
type scene struct {
	t       *testing.T
	c       chance
	base    string
	tree    *state.Machine
	hub     *fan.Hub
	clients []*client
	dying   []dying // sessions that their clients have ended, of which the server does not know as yet
	fill    int     // the number of the last request of the session that writes elsewhere
	room    bool    // that session leaves room in the tree
	trouble int     // one thing of so many makes trouble
	tally   map[string]int
	history
}

// client is one that plays a machine's wishes.
type client struct {
	*life
	number   int
	session  int  // 0: it has none
	begun    int  // how many sessions it has had
	isGone   bool // the session is over, which the client was not told as yet
	wishes   []api.Wish
	open     *order // the request that it waits for
	requests int
	ids      int
	conn     int
	last     int // the stamp of the item taken last
	watches  []*spy
	claim    *claim // what it was in by at last
}

// order is a request on its way.
type order struct {
	number   int
	ops      []api.Op
	isPlayed bool
	reply    api.Reply
	isHeard  bool
	isLost   bool // its answer was told to nobody
}

// spy is a client's watch.
type spy struct {
	watch     api.Watch
	part      *api.Part // its grant is under way
	refusal   api.Errno
	isGranted bool
	at        int // the picture's stamp
	isLeaving bool
}

type dying struct {
	session int
	stray   *order // a request that may still arrive
}

const elsewhere = 16 // the session that writes elsewhere: no client has its slot

func sceneOf(t *testing.T, c chance, base string, tally map[string]int, jobs ...api.Job) *scene {
	t.Helper()
	hub, _ := fan.New(1+c.IntN(4), pick(c, 1, 4, api.MaxRing), 0)
	s := &scene{t: t, c: c, base: base, tree: state.New(), hub: hub, room: c.IntN(3) > 0, trouble: pick(c, 10, 20, 50, 120), tally: tally, history: newHistory()}
	s.commit(api.EntryOpen, elsewhere, 0, nil)
	for i, job := range jobs {
		s.clients = append(s.clients, &client{life: born(t, job), number: i + 1})
	}
	return s
}

// roomy is a hub without markers, for a scene in which nothing has happened as yet.
func roomy() *fan.Hub {
	hub, _ := fan.New(api.MaxQueue, api.MaxRing, 1)
	return hub
}

// commit puts an entry into the history.
func (s *scene) commit(kind, session, request int, o *order) api.Reply {
	e := api.Entry{Stamp: s.tree.Last() + 1, View: 1, Kind: kind, Session: session, Request: request}
	if o != nil {
		e.Ops = o.ops
	}
	r, changes, code := s.tree.Apply(e)
	if code != api.OK {
		s.t.Fatalf("the entry %+v is refused by %d", e, code)
	}
	if code := s.hub.Commit(e.Stamp, changes, s.tree); code != api.OK {
		s.t.Fatalf("the hub refuses the entry %+v by %d", e, code)
	}
	s.notes(s, o, changes)
	return r
}

// hearsOf: the client's machine hears, and what it wishes for stands behind the other wishes.
func (p *client) hearsOf(t api.Told) {
	p.t.Helper()
	p.wishes = append(p.wishes, p.life.hear(t)...)
}

// The acts: each answers whether there was something to do.

// takesWish: the client takes the machine's first wish, if it can.
func (s *scene) takesWish(p *client) bool {
	if p.session == 0 || len(p.wishes) == 0 {
		return false
	}
	w := p.wishes[0]
	var t api.Told
	switch w.Kind {
	case api.WishDo:
		if p.open != nil {
			return false
		}
		p.requests++
		p.open = &order{number: p.requests, ops: w.Ops}
		t = called(p.requests, slices.Clone(w.Ops)...)
	case api.WishWatch:
		if len(p.watches) == api.MaxWatches {
			return false
		}
		p.ids++
		p.watches = append(p.watches, &spy{watch: api.Watch{Id: p.ids, Place: w.Place, Kind: w.Watch}})
		t = watched(p.ids, w.Place, w.Watch)
	case api.WishUnwatch:
		if i := p.spyOf(w.Id); i >= 0 {
			p.watches[i].isLeaving, p.watches[i].part = true, nil
			t = api.Told{Kind: api.ToldUnwatch, Watch: p.watches[i].watch}
		}
	}
	p.wishes = p.wishes[1:]
	p.hearsOf(t)
	return true
}

func (p *client) spyOf(id int) int {
	return slices.IndexFunc(p.watches, func(w *spy) bool { return w.watch.Id == id })
}

// plays: the client's request arrives, and is played.
func (s *scene) plays(p *client) bool {
	if p.open == nil || p.open.isPlayed {
		return false
	}
	p.open.isPlayed = true
	p.open.reply = s.commit(api.EntryRequest, p.session, p.open.number, p.open)
	return true
}

// replies: the client hears the reply to its request.
func (s *scene) replies(p *client) bool {
	o := p.open
	if o == nil || !o.isPlayed {
		return false
	}
	p.open, o.isHeard = nil, true
	p.hearsOf(answered(o.number, o.reply))
	return true
}

// looks: a watch that was asked for arrives at the hub, or is refused.
func (s *scene) looks(p *client) bool {
	i := slices.IndexFunc(p.watches, func(w *spy) bool {
		return w.part == nil && w.refusal == api.OK && !w.isGranted && !w.isLeaving
	})
	if i < 0 || p.isGone {
		return false
	}
	if s.c.IntN(s.trouble) < 3 {
		p.watches[i].refusal = pick(s.c, api.ErrFull, api.ErrWatch, api.ErrPlace)
		return true
	}
	part, code := s.hub.Watch(p.session, p.conn, p.watches[i].watch, s.tree)
	if code != api.OK {
		s.t.Fatalf("the hub refuses the watch %+v by %d", p.watches[i].watch, code)
	}
	p.watches[i].part = &part
	return true
}

// grants: the client hears that a watch is granted, or refused.
func (s *scene) grants(p *client) bool {
	i := slices.IndexFunc(p.watches, func(w *spy) bool { return !w.isLeaving && (w.part != nil || w.refusal != api.OK) })
	if i < 0 {
		return false
	}
	w := p.watches[i]
	if w.refusal != api.OK {
		p.watches = slices.Delete(p.watches, i, i+1)
		s.tally["refused watches"]++
		p.hearsOf(refused(w.watch.Id, w.watch.Place, w.watch.Kind, w.refusal))
		return true
	}
	shot := w.part.Shot
	w.part, w.isGranted, w.at = nil, true, shot.Stamp
	if s.c.IntN(3) > 0 {
		s.comesBack(p)
	}
	if shot.Stamp < s.tree.Last() {
		s.tally["late grants"]++
	}
	p.hearsOf(granted(w.watch.Id, shot))
	return true
}

// brings: the client takes the next item, unless it lies behind a grant that is under way.
func (s *scene) brings(p *client) bool {
	items := s.hub.Next(p.session, 1)
	if p.session == 0 || len(items) == 0 {
		return false
	}
	item := items[0]
	if item.Stamp <= p.last {
		s.t.Fatalf("an item of %d comes behind one of %d", item.Stamp, p.last)
	}
	for _, w := range p.watches {
		if w.part != nil && w.part.Shot.Stamp < item.Stamp {
			return false
		}
	}
	if code := s.hub.Took(p.session, p.conn, item.Stamp); code != api.OK {
		s.t.Fatalf("the hub refuses by %d that an item was taken", code)
	}
	p.last = item.Stamp
	if item.Stamp < s.tree.Last() {
		s.tally["late items"]++
	}
	if item, isRight := p.right(item); isRight {
		if item.Marker {
			s.tally["markers"]++
		}
		p.hearsOf(taken(item))
	}
	return true
}

// right leaves of an item what is for watches that are granted, below it.
func (p *client) right(item api.Item) (api.Item, bool) {
	isFor := func(id int) bool {
		i := p.spyOf(id)
		return i >= 0 && p.watches[i].isGranted && !p.watches[i].isLeaving && p.watches[i].at < item.Stamp
	}
	var changes []api.Tagged
	for _, c := range item.Changes {
		c.Tags = slices.DeleteFunc(c.Tags, func(id int) bool { return !isFor(id) })
		if len(c.Tags) > 0 {
			changes = append(changes, c)
		}
	}
	item.Changes = changes
	item.Parts = slices.DeleteFunc(item.Parts, func(part api.Part) bool { return !isFor(part.Id) })
	for _, w := range p.watches {
		if w.isGranted && w.at < item.Stamp {
			w.at = item.Stamp
		}
	}
	return item, len(item.Changes)+len(item.Parts) > 0
}

// leavesWatch: a watch that is leaving is gone.
func (s *scene) leavesWatch(p *client) bool {
	i := slices.IndexFunc(p.watches, func(w *spy) bool { return w.isLeaving })
	if i < 0 {
		return false
	}
	s.hub.Unwatch(p.session, p.conn, p.watches[i].watch.Id)
	p.watches = slices.Delete(p.watches, i, i+1)
	return true
}

// comesBack: the client comes back by a new connection; what it missed is told again, or by a marker.
func (s *scene) comesBack(p *client) bool {
	if p.session == 0 || p.isGone {
		return false
	}
	p.conn++
	var granted []api.Watch
	p.watches = slices.DeleteFunc(p.watches, func(w *spy) bool { return w.isLeaving })
	for _, w := range p.watches {
		w.part = nil
		if w.isGranted {
			at := w.watch
			at.From = w.at
			granted = append(granted, at)
		}
	}
	if code := s.hub.Resume(p.session, p.conn, p.last, granted, s.tree); code != api.OK {
		s.t.Fatalf("the hub refuses by %d that a client comes back", code)
	}
	return true
}

// forgets: the client has no session any more, and nothing of it.
func (p *client) forgets(kind int) {
	p.session, p.isGone, p.wishes, p.open, p.watches = 0, false, nil, nil, nil
	p.hearsOf(told(kind))
}

// ends: the client ends its session; what it asked may still arrive.
func (s *scene) ends(p *client) bool {
	if p.session == 0 || p.isGone {
		return false
	}
	d := dying{session: p.session}
	if p.open != nil {
		p.open.isLost = true
		if !p.open.isPlayed {
			d.stray = p.open
		}
	}
	s.dying = append(s.dying, d)
	p.forgets(api.ToldEnd)
	return true
}

// closes: the end of a session arrives, perhaps behind the last request.
func (s *scene) closes() bool {
	if len(s.dying) == 0 {
		return false
	}
	d := s.dying[0]
	s.dying = s.dying[1:]
	if d.stray != nil && s.c.IntN(2) == 0 {
		d.stray.isPlayed = true
		s.commit(api.EntryRequest, d.session, d.stray.number, d.stray)
	}
	s.commit(pick(s.c, api.EntryClose, api.EntryExpire), d.session, 0, nil)
	s.hub.Drop(d.session)
	return true
}

// expires: the server gives a session up.
func (s *scene) expires(p *client) bool {
	if p.session == 0 || p.isGone {
		return false
	}
	s.commit(api.EntryExpire, p.session, 0, nil)
	s.hub.Drop(p.session)
	p.isGone = true
	return true
}

// isTold: the client is told that its session is over.
func (s *scene) isTold(p *client) bool {
	if !p.isGone {
		return false
	}
	if p.open != nil {
		p.open.isLost = true
	}
	p.forgets(api.ToldGone)
	return true
}

// beginsSession: the client has a new session, in which its machine begins.
func (s *scene) beginsSession(p *client) bool {
	if p.session != 0 {
		return false
	}
	p.begun++
	p.session, p.requests, p.ids, p.conn, p.last = p.number+api.MaxSlots*p.begun, 0, 0, 0, 0
	s.commit(api.EntryOpen, p.session, 0, nil)
	s.comesBack(p)
	p.wishes = append(p.wishes, p.life.begin()...)
	return true
}

// retires: in the place of a machine that is done there is another one, with the same job.
func (s *scene) retires(p *client) bool {
	if p.session == 0 || p.g.held.Phase != api.HeldDone || p.open != nil || len(p.wishes)+len(p.watches) > 0 {
		return false
	}
	s.retired = append(s.retired, p.life)
	p.life, p.claim = born(s.t, p.job), nil
	p.wishes = p.life.begin()
	return true
}

// beginsAgain: a machine that was lost begins again.
func (s *scene) beginsAgain(p *client) bool {
	if p.session == 0 || p.g.held.Phase != api.HeldOut || p.g.left {
		return false
	}
	p.wishes = append(p.wishes, p.life.begin()...)
	return true
}

func (s *scene) isLeft(p *client) bool {
	if p.g.left {
		return false
	}
	p.wishes = append(p.wishes, p.life.leave()...)
	return true
}

// writesElsewhere: somebody else makes and drops nodes elsewhere, so that stamps go by, and the tree gets full.
func (s *scene) writesElsewhere() {
	s.fill++
	op := pick(s.c, makes("/f", "", 0), makes("/f/x", "", counted), makes("/f/x", "", counted), sets("/f", "d", -1))
	o := &order{ops: []api.Op{op}}
	if parent, _ := place.Parent(s.base); parent != "/" && !s.has(parent) && s.c.IntN(4) == 0 {
		o.ops = []api.Op{makes(parent, "", 0)}
	}
	if kids, _ := s.tree.Part("/f", api.WatchKids); len(kids.Nodes) > 1 && (s.room || s.c.IntN(4) == 0) {
		o.ops = append(o.ops, drops(kids.Nodes[len(kids.Nodes)-1].Place))
	} else if len(kids.Nodes) > 0 && !s.room {
		o.ops = slices.Repeat([]api.Op{makes("/f/x", "", counted)}, 4)
	}
	s.commit(api.EntryRequest, elsewhere, s.fill, o)
}

// has tells whether there is a node now.
func (s *scene) has(at string) bool {
	shot, _ := s.tree.Part(at, api.WatchNode)
	return len(shot.Nodes) > 0
}

// rivals are the names of a kind's nodes below the base, in a list of names.
func rivals(kind int, names []string) []string {
	var all []string
	for _, name := range names {
		if strings.HasPrefix(name, nameOf(kind)) {
			all = append(all, name)
		}
	}
	slices.Sort(all)
	return all
}
