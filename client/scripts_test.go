package client_test

import (
	"fmt"
	"maps"
	"slices"
	"strings"
	"testing"

	"herald/api"
	"herald/client"
	"herald/note"
)

// call is a call of a client.
type call struct {
	kind    string
	ops     []api.Op
	place   string
	number  int // the kind of a watch, or the id of one
	message api.Message
}

func (x call) String() string {
	switch x.kind {
	case "do":
		return "Do of " + tell(x.ops)
	case "watch":
		return fmt.Sprintf("Watch(%q, %d)", x.place, x.number)
	case "unwatch":
		return fmt.Sprintf("Unwatch(%d)", x.number)
	case "take":
		n, code := note.Open(x.message)
		return fmt.Sprintf("Take of %d > %d %s, %d", x.message.From, x.message.To, tellFields(n), code)
	}
	return x.kind
}

// on makes the call.
func (x call) on(c *client.Client) answer {
	switch x.kind {
	case "begin":
		return answerOf(c.Begin())
	case "do":
		return answerOf(c.Do(x.ops...))
	case "watch":
		return answerOf(c.Watch(x.place, x.number))
	case "unwatch":
		return answerOf(c.Unwatch(x.number))
	case "end":
		return answerOf(c.End())
	case "take":
		return quiet(c.Take(x.message))
	}
	return quiet(c.Tick())
}

func (x call) again(g *again) answer {
	switch x.kind {
	case "begin":
		return g.begins()
	case "do":
		return g.calls(x.ops)
	case "watch":
		return g.watches(x.place, x.number)
	case "unwatch":
		return g.unwatches(x.number)
	case "end":
		return g.ends()
	case "take":
		return g.takes(x.message)
	}
	return g.ticks()
}

// both makes a call of a client and of its second reckoning, and holds one against the other.
func (x call) both(t *testing.T, c *client.Client, g *again) answer {
	t.Helper()
	got, want := x.on(c), x.again(g)
	if !got.is(want) {
		t.Errorf("%s: %s\nthe second reckoning: %s", x, got, want)
	}
	if parts := c.Pictures(); !same(parts, g.parts()) {
		t.Errorf("P15.10: behind %s Pictures are %s, the second reckoning has %s", x, tell(parts), tell(g.parts()))
	}
	if session, last := c.Session(); session != g.session || last != g.last {
		t.Errorf("P15.10: behind %s Session is %d, %d, the second reckoning has %d, %d", x, session, last, g.session, g.last)
	}
	return got
}

// taking is the call by which a client takes a note.
func taking(g *again, from int, n api.Note) call {
	m, code := note.Message(from, 100+g.number, n)
	if code != api.OK {
		panic(fmt.Sprint("a note that may not be: ", tellFields(n)))
	}
	return call{kind: "take", message: m}
}

// letters are calls that go on from how a client stands, each in the one way that brings it further.
func letters() map[string]func(g *again) call {
	plain := func(kind string) func(g *again) call {
		return func(*again) call { return call{kind: kind} }
	}
	takes := func(n func(g *again) api.Note) func(g *again) call {
		return func(g *again) call {
			next := n(g)
			next.View.Num, next.Session, next.Conn = max(next.View.Num, g.view.Num), max(1, g.session), max(1, g.conn)
			fitted(&next)
			return taking(g, 1, next)
		}
	}
	return map[string]func(g *again) call{
		"begin": plain("begin"),
		"end":   plain("end"),
		"tick":  plain("tick"),
		"do":    func(*again) call { return call{kind: "do", ops: []api.Op{gets("/a")}} },
		"watch": func(*again) call { return call{kind: "watch", place: "/a", number: api.WatchNode} },
		"unwatch": func(g *again) call {
			return call{kind: "unwatch", number: least(g.asked, g.watchs)}
		},
		"opened":   takes(func(g *again) api.Note { return opened(1, 1, api.OK) }),
		"unopened": takes(func(g *again) api.Note { return opened(1, 1, api.ErrOld) }),
		"gone":     takes(func(g *again) api.Note { return gone(1, 1) }),
		"answer":   takes(func(g *again) api.Note { return answers(1, 1, max(1, g.request), api.Reply{Stamp: 3}) }),
		"resumed":  takes(func(g *again) api.Note { return resumed(1, 1, 1, g.last, api.OK) }),
		"lost":     takes(func(g *again) api.Note { return resumed(1, 1, 1, g.last, api.ErrSession) }),
		"refused":  takes(func(g *again) api.Note { return refused(1, 1, 1, least(g.asked), api.ErrFull) }),
		"granted":  takes(func(g *again) api.Note { return watched(1, 1, 1, part(least(g.asked), g.last+1, "/a", api.WatchNode)) }),
		"late": takes(func(g *again) api.Note {
			return watched(1, 1, 1, part(least(g.asked), max(0, g.last-1), "/a", api.WatchNode))
		}),
		"unwatched": takes(func(g *again) api.Note { return unwatched(1, 1, 1, least(g.left)) }),
		"event":     takes(func(g *again) api.Note { return delivers(1, 1, 1, g.ids(), g.nextEvent()) }),
		"marker":    takes(func(g *again) api.Note { return delivers(1, 1, 1, g.ids(), g.nextMarker()) }),
		"unknown":   takes(func(g *again) api.Note { return delivers(1, 1, 1, nil, g.nextEvent()) }),
		"view":      func(g *again) call { return taking(g, 0, tells(g.view.Num+1, g.view.Primary%g.nodes+1, 0)) },
	}
}

// fitted leaves out of a note what its kind does not have.
func fitted(n *api.Note) {
	if n.Kind == api.NoteOpened || n.Kind == api.NoteGone || n.Kind == api.NoteAnswer {
		n.Conn = 0
	}
}

// least is the lowest id of watches, or 1.
func least(of ...map[int]api.Watch) int {
	all := map[int]api.Watch{}
	for _, some := range of {
		maps.Copy(all, some)
	}
	ids := slices.Sorted(maps.Keys(all))
	return append(ids, 1)[0]
}

// ids are those of the granted watches.
func (g *again) ids() []int { return slices.Sorted(maps.Keys(g.pictures)) }

// nextEvent is one that goes on from what was taken, and turns whether /a is there, as the first picture has it.
func (g *again) nextEvent() api.Item {
	turn, tags := made("/a", "x"), append(g.ids(), 99)
	if ids := g.ids(); len(ids) > 0 && len(g.pictures[ids[0]].Nodes) > 0 {
		turn = dropped("/a")
	}
	turn.Tags = tags[:min(len(tags), 4)]
	return event(g.last+2, g.last, turn)
}

func (g *again) nextMarker() api.Item {
	item := marker(g.last+2, 0, part(99, g.last+2, "/a", api.WatchNode))
	for _, p := range g.parts() {
		p.Shot.Stamp, p.Shot.Nodes = g.last+2, []api.Seen{seen("/a", "marked", 9)}
		item.Parts = append(item.Parts, p)
	}
	item.Parts = item.Parts[max(0, len(item.Parts)-4):]
	return item
}

// eachScript goes through all scripts of so many letters, behind some that come first.
func eachScript(t *testing.T, first, names []string, size int) {
	t.Helper()
	t.Run(fmt.Sprint(first, len(names), size), func(t *testing.T) {
		t.Parallel()
		fromEach(t, letters(), first, names, size)
	})
}

func fromEach(t *testing.T, all map[string]func(g *again) call, first, names []string, size int) {
	script := make([]string, size)
	var from func(at int)
	from = func(at int) {
		if t.Failed() {
			return
		}
		if at < size {
			for _, name := range names {
				script[at] = name
				from(at + 1)
			}
			return
		}
		c, _ := client.New(2, 3)
		g := startAgain(2, 3)
		laws := newLaws(t, 102, 3)
		for _, name := range slices.Concat(first, script) {
			laws.hold(all[name](g).both(t, c, g))
		}
		if t.Failed() {
			t.Fatalf("the script is %s, %s", first, script)
		}
	}
	from(0)
}

// TestSmallScripts: P15.2 to P15.10, all small scripts against the second reckoning.
func TestSmallScripts(t *testing.T) {
	every := slices.Sorted(maps.Keys(letters()))
	begun := []string{"begin", "opened"}
	for size := 1; size <= 3; size++ {
		eachScript(t, nil, every, size)
		eachScript(t, begun, every, size)
		eachScript(t, append(begun[:2:2], "resumed", "watch", "granted", "watch"), every, size)
	}
	eachScript(t, begun, []string{"resumed", "watch", "unwatch", "granted", "unwatched", "event", "do", "lost", "view"}, 4)
	eachScript(t, begun, []string{"resumed", "watch", "granted", "event", "marker"}, 5)
	eachScript(t, nil, []string{"begin", "end", "opened", "gone", "do", "answer"}, 5)
}

// laws are what holds of a client whatever comes: P15.12 and P15.14.
type laws struct {
	t        *testing.T
	address  int
	nodes    int
	stamps   map[int]int     // by sessions: the last stamp of an item
	replies  map[[2]int]bool // by sessions and requests
	grants   map[int]bool    // by ids
	sessions map[int]string  // how far a session is: begun, over
	seen     map[string]int
}

func newLaws(t *testing.T, address, nodes int) *laws {
	return &laws{t, address, nodes, map[int]int{}, map[[2]int]bool{}, map[int]bool{}, map[int]string{}, map[string]int{}}
}

// hold looks at what a client has told and sent.
func (w *laws) hold(a answer) {
	w.t.Helper()
	for _, x := range a.told {
		w.holdTold(x)
	}
	for _, m := range a.sent {
		n, code := note.Open(m)
		if code != api.OK || m.From != w.address || m.To < 0 || m.To > w.nodes || (m.To == 0) != (n.Kind == api.NoteAsk) {
			w.t.Errorf("P15.14: %d > %d is sent, which says %d: %s", m.From, m.To, code, tellFields(n))
		}
		w.seen[fmt.Sprint("sent ", n.Kind)]++
	}
}

func (w *laws) holdTold(x api.Told) {
	w.t.Helper()
	w.seen[fmt.Sprint("told ", x.Kind)]++
	if x.Session == 0 || x.Step != 0 || x.Client != 0 {
		w.t.Errorf("P15.2: told without a session, or with more than is said: %s", tellFields(x))
	}
	switch x.Kind {
	case api.ToldItem:
		if x.Stamp != x.Item.Stamp || x.Stamp <= w.stamps[x.Session] {
			w.t.Errorf("P15.12: the item %d of the session %d is told behind %d", x.Stamp, x.Session, w.stamps[x.Session])
		}
		w.stamps[x.Session] = x.Stamp
		w.seen[map[bool]string{false: "event", true: "marker"}[x.Item.Marker]]++
	case api.ToldReply:
		key := [2]int{x.Session, x.Request}
		if w.replies[key] {
			w.t.Errorf("P15.12: the request %v is told a reply twice", key)
		}
		w.replies[key] = true
	case api.ToldWatched:
		if w.grants[x.Watch.Id] {
			w.t.Errorf("P15.12: the watch %d is granted, or refused, twice", x.Watch.Id)
		}
		w.grants[x.Watch.Id] = true
	case api.ToldBegin, api.ToldBegun, api.ToldEnd, api.ToldGone:
		w.holdSession(x)
	}
}

// holdSession holds that the tellings of a session come in their order, each at most once.
func (w *laws) holdSession(x api.Told) {
	w.t.Helper()
	was := w.sessions[x.Session]
	order := map[int]string{api.ToldBegin: "", api.ToldBegun: "begin", api.ToldEnd: "begin begun", api.ToldGone: "begin begun end"}
	next := map[int]string{api.ToldBegin: "begin", api.ToldBegun: "begun", api.ToldEnd: "end", api.ToldGone: "gone"}
	if !slices.Contains(strings.Fields(order[x.Kind]), was) && was != order[x.Kind] {
		w.t.Errorf("P15.2: the session %d is told %s behind %q", x.Session, next[x.Kind], was)
	}
	w.sessions[x.Session] = next[x.Kind]
}

// Calls by chance:

var somePlaces = []string{"/", "/a", "/a/b", "/a/b/c", "/b", "/c"}

func (c chance) place() string { return pick(c, somePlaces...) }

func (c chance) op() api.Op {
	o := api.Op{Kind: c.IntN(9), Place: c.place(), Data: pick(c, "", "some data", "more"), Version: c.IntN(4) - 1, Flags: c.IntN(4)}
	switch c.IntN(40) {
	case 0:
		o.Place = strings.Repeat("p", api.MaxRaw+c.IntN(2))
	case 1:
		o.Data = strings.Repeat("d", api.MaxRaw+c.IntN(2))
	case 2:
		o.Kind = pick(c, ends()...)
	case 3:
		o.Flags = pick(c, ends()...)
	case 4:
		o.Version = pick(c, ends()...)
	}
	return o
}

func (c chance) ops() []api.Op {
	var list []api.Op
	for range pick(c, 0, 1, 1, 2, 3, 4, 4, 5) {
		list = append(list, c.op())
	}
	return list
}

// nodes are those of a part of some place and kind, now and then such as can't be.
func (c chance) nodes(at string, kind int) []api.Seen {
	var list []api.Seen
	for _, p := range []string{"/", "/a", "/a/b", "/a/b/c", "/b", "/c"} {
		below := strings.HasPrefix(p, strings.TrimSuffix(at, "/")+"/") && p != at
		isKid := below && strings.Count(p, "/") == strings.Count(strings.TrimSuffix(at, "/"), "/")+1
		if p != at && !(kind == api.WatchKids && isKid) && !(kind == api.WatchSubtree && below) {
			continue
		}
		switch n := seen(p, pick(c, "", "data"), c.IntN(3)); {
		case c.IntN(4) == 0 && p != "/":
		case kind == api.WatchKids && c.IntN(50) > 0:
			list = append(list, seen(p, "", 0))
		default:
			list = append(list, n)
		}
	}
	return list
}

func (c chance) shot(at string, kind, stamp int) api.Shot {
	if c.IntN(20) == 0 {
		at, kind = c.place(), 1+c.IntN(3)
	}
	return shotOf(stamp, at, kind, c.nodes(at, kind)...)
}

// id is that of a watch that there is, or about one.
func (c chance) id(g *again) int {
	all := slices.Concat(slices.Sorted(maps.Keys(g.asked)), slices.Sorted(maps.Keys(g.left)), g.ids())
	if len(all) == 0 || c.IntN(12) == 0 {
		return pick(c, 1, max(1, g.top), min(most, g.top+1), 99)
	}
	return pick(c, all...)
}

// near is a stamp about the last one.
func (c chance) near(g *again) int {
	if c.IntN(60) == 0 {
		return pick(c, 0, most)
	}
	return min(max(0, g.last+c.IntN(6)-2), most)
}

func (c chance) event(g *again, stamp, after int) api.Item {
	item := event(stamp, after)
	for range 1 + c.IntN(3) {
		t := api.Tagged{Change: api.Change{Kind: 1 + c.IntN(3), Place: c.place(), Data: pick(c, "", "changed"), Version: c.IntN(3)}}
		for range 1 + c.IntN(4) {
			t.Tags = append(t.Tags, c.id(g))
		}
		slices.Sort(t.Tags)
		t.Tags = slices.Compact(t.Tags)
		item.Changes = append(item.Changes, t)
	}
	return item
}

func (c chance) marker(g *again, stamp, after int) api.Item {
	item := marker(stamp, after)
	for range pick(c, 1, 3, 4, 4) {
		p := api.Part{Id: c.id(g), Shot: c.shot(c.place(), 1+c.IntN(3), stamp)}
		if w, isGranted := g.watchs[p.Id]; isGranted && c.IntN(10) > 0 {
			p.Shot = c.shot(w.Place, w.Kind, pick(c, stamp, stamp, stamp, stamp, max(0, stamp-1)))
		}
		item.Parts = append(item.Parts, p)
	}
	return item
}

// delivery is one that mostly goes on from what was taken.
func (c chance) delivery(g *again) api.Note {
	n := delivers(1, 1, 1, nil)
	ids := append(g.ids(), slices.Sorted(maps.Keys(g.left))...)
	if c.IntN(10) == 0 {
		ids = append(ids, c.id(g), 99)
	}
	slices.Sort(ids)
	for _, id := range slices.Compact(ids) {
		if c.IntN(15) > 0 && len(n.Watches) < api.MaxWatches {
			n.Watches = append(n.Watches, api.Watch{Id: id})
		}
	}
	stamp, after := c.near(g), c.near(g)
	if c.IntN(3) > 0 {
		stamp, after = min(g.last+1+c.IntN(3), most), max(0, g.last-c.IntN(2))
	}
	for i := range 1 + c.IntN(4) {
		if i == 0 && c.IntN(6) == 0 {
			n.Items = append(n.Items, c.marker(g, stamp, after))
		} else {
			n.Items = append(n.Items, c.event(g, stamp, after))
		}
		after = max(0, stamp-c.IntN(8)/7)
		if stamp > most-9 {
			break
		}
		stamp += 1 + c.IntN(2)
	}
	return n
}

// note is one to a client, as it might come; the rarer it is wished for, the later it stands.
func (c chance) note(g *again) (int, api.Note) {
	code := pick(c, api.OK, api.OK, api.OK, api.ErrSession, api.ErrFull)
	switch k := c.IntN(100); {
	case k < 40:
		return 1, c.delivery(g)
	case k < 60:
		return 1, resumed(1, 1, 1, c.near(g), code)
	case k < 75:
		id := c.id(g)
		w, isAsked := g.asked[id]
		if !isAsked {
			w = watch(id, c.place(), 1+c.IntN(3), 0)
		}
		if code != api.OK && c.IntN(3) == 0 {
			return 1, refused(1, 1, 1, id, code)
		}
		return 1, watched(1, 1, 1, api.Part{Id: id, Shot: c.shot(w.Place, w.Kind, c.near(g))})
	case k < 82:
		return 1, unwatched(1, 1, 1, c.id(g))
	case k < 90:
		return 1, answers(1, 1, max(1, g.request-c.IntN(5)/4), api.Reply{Stamp: c.near(g), Code: code, Results: []api.Result{{Place: c.place(), Data: "data", Kids: []string{"kid", "other"}}}})
	case k < 93:
		return pick(c, 0, 0, 0, 1), tells(max(0, min(g.view.Num+c.IntN(4)-1, most)), c.IntN(5), c.IntN(4))
	case k < 96:
		return pick(c, 0, 1, 2, 3, 4, 5), elsewhere(max(0, min(g.view.Num+c.IntN(4)-1, most)), c.IntN(5), c.IntN(4))
	case k < 98:
		return 1, opened(1, 1, pick(c, api.OK, api.OK, api.OK, api.ErrOld))
	case k < 99:
		return 1, gone(1, 1)
	}
	return pick(c, anybody...), pick(c, others(max(1, g.session), max(1, g.conn))...)
}

// aim gives a note the view, the session and the connection that it needs; now and then others.
func (c chance) aim(g *again, n *api.Note) {
	switch n.Kind {
	case api.NoteOpened, api.NoteGone, api.NoteAnswer, api.NoteResumed, api.NoteWatched, api.NoteUnwatched, api.NoteDeliver:
		n.View.Num, n.Session, n.Conn = g.view.Num, max(1, g.session), max(1, g.conn)
		switch c.IntN(30) {
		case 0:
			n.View.Num = max(1, n.View.Num-1)
		case 1:
			n.View.Num = min(n.View.Num+1, most)
		case 2:
			n.Session = max(1, n.Session-16)
		case 3, 4:
			n.Conn = max(1, n.Conn-1)
		case 5:
			n.Conn = min(n.Conn+1, most)
		}
		fitted(n)
	}
}

func (c chance) taking(g *again) call {
	from, n := c.note(g)
	c.aim(g, &n)
	x := taking(g, from, n)
	switch c.IntN(60) {
	case 0:
		x.message.To = pick(c, 0, 1, 101, 103, 1000)
	case 1:
		x.message.Bytes = x.message.Bytes[:c.IntN(len(x.message.Bytes))]
	case 2:
		x.message.From = pick(c, anybody...)
	}
	return x
}

// call is one that the client is not always ready for; a session ends seldom.
func (c chance) call(g *again) call {
	switch g.phase {
	case "none", "ending":
		if c.IntN(3) == 0 {
			return call{kind: "begin"}
		}
	case "opening":
		if c.IntN(3) == 0 {
			return taking(g, 1, opened(g.view.Num, g.session, api.OK))
		}
	case "open":
		if !g.resumed && c.IntN(4) == 0 {
			return taking(g, 1, resumed(g.view.Num, g.session, g.conn, 0, api.OK))
		}
		if w := g.asked[least(g.asked)]; w.Id > 0 && c.IntN(6) == 0 {
			p := api.Part{Id: w.Id, Shot: c.shot(w.Place, w.Kind, min(most, g.last+c.IntN(4)))}
			return taking(g, 1, watched(g.view.Num, g.session, g.conn, p))
		}
		if len(g.left) > 0 && c.IntN(6) == 0 {
			return taking(g, 1, unwatched(g.view.Num, g.session, g.conn, least(g.left)))
		}
	}
	switch k := c.IntN(100); {
	case k < 8:
		return call{kind: "do", ops: c.ops()}
	case k < 18:
		return call{kind: "watch", place: pick(c, append(somePlaces, somePlaces[1], "wrong")...), number: pick(c, 1, 2, 3, 1, 2, 3, 0, 4)}
	case k < 22:
		return call{kind: "unwatch", number: c.id(g)}
	case k < 27:
		return call{kind: "tick"}
	case k < 28:
		return call{kind: "begin"}
	case k < 29 && c.IntN(2) == 0:
		return call{kind: "end"}
	}
	return c.taking(g)
}

// longScript plays a long script by chance of a client and its second reckoning.
func longScript(t *testing.T, seed uint64, size int) *laws {
	t.Helper()
	c := chanceOf(seed, 15)
	number, nodes := 1+c.IntN(api.MaxClients), 1+c.IntN(api.MaxPeers)
	made, _ := client.New(number, nodes)
	g := startAgain(number, nodes)
	laws := newLaws(t, 100+number, nodes)
	if c.IntN(10) == 0 {
		g.conn, g.begun, g.top = most-c.IntN(9), most/16-c.IntN(3), most-c.IntN(9)
		made.Age(g.conn, g.begun, g.top, 0)
	}
	for at := range size {
		x := c.call(g)
		a := x.both(t, made, g)
		laws.hold(a)
		laws.seen[fmt.Sprint(x.kind, " ", int(a.code))]++
		laws.look(x, a, g)
		if t.Failed() {
			t.Fatalf("seed %d, at %d", seed, at)
		}
	}
	return laws
}

// look counts what deliveries do.
func (w *laws) look(x call, a answer, g *again) {
	n, _ := note.Open(x.message)
	if n.Kind != api.NoteDeliver || len(a.sent) == 0 {
		return
	}
	last, _ := note.Open(a.sent[len(a.sent)-1])
	if last.Kind != api.NoteTook {
		w.seen[fmt.Sprint("ended behind ", len(a.told), " items")]++
		return
	}
	w.seen[fmt.Sprint("took ", len(a.told), " items")]++
	for _, picture := range g.pictures {
		if picture.Stamp < g.last {
			w.seen["left behind"]++
		}
	}
	for _, t := range a.told {
		w.seen[fmt.Sprint("marker ", t.Item.Marker, " of ", len(t.Item.Parts)+len(t.Item.Changes))]++
	}
}

// TestLongScripts: P15.2 to P15.10, long scripts by chance against the second reckoning, and P15.12 and P15.14 of all that is told and sent in them.
func TestLongScripts(t *testing.T) {
	t.Parallel()
	seen := map[string]int{}
	for seed := range uint64(300) {
		for what, times := range longScript(t, seed, 250).seen {
			seen[what] += times
		}
	}
	// The scripts are of use only if they come to all that there is.
	for kind := api.ToldCall; kind <= api.ToldUnwatch; kind++ {
		atLeast(t, seen, fmt.Sprint("told ", kind), 200)
	}
	for _, kind := range []int{api.NoteOpen, api.NoteCall, api.NoteClose, api.NoteBeat, api.NoteResume, api.NoteWatch, api.NoteUnwatch, api.NoteTook, api.NoteAsk} {
		atLeast(t, seen, fmt.Sprint("sent ", kind), 200)
	}
	for _, what := range []string{"ended behind 0 items", "ended behind 1 items", "took 4 items", "left behind", "marker true of 1", "marker true of 2", "marker false of 3"} {
		atLeast(t, seen, what, 15)
	}
	for _, refusal := range []string{"begin 150", "begin 3", "do 2", "do 1", "do 150", "watch 10", "watch 1", "watch 150", "watch 46", "watch 3", "unwatch 150", "end 150"} {
		atLeast(t, seen, refusal, 15)
	}
}

func atLeast(t *testing.T, seen map[string]int, what string, times int) {
	t.Helper()
	if seen[what] < times {
		t.Errorf("%q came %d times only", what, seen[what])
	}
}
