package fan_test

import (
	"slices"
	"strings"
	"testing"

	"herald/api"
	"herald/fan"
	"herald/place"
	"herald/state"
)

// again is a hub by other means: the whole history that it was told, and plain lists that are gone through from end to end.
type again struct {
	room, keep, begin int
	history           [][]api.Change // all entries behind begin
	seats             []seat         // by sessions
}

// seat is a session of it.
type seat struct {
	session, conn int
	watches       []api.Watch // by ids
	items         []api.Item
	last          int // the stamp of the last item ever, or where the queue began
}

// copied can be turned without the first one.
func (g *again) copied() *again {
	c := *g
	c.history = slices.Clip(c.history)
	c.seats = slices.Clone(c.seats)
	for i := range c.seats {
		c.seats[i].watches = slices.Clone(c.seats[i].watches)
		c.seats[i].items = slices.Clone(c.seats[i].items)
	}
	return &c
}

func (g *again) last() int  { return g.begin + len(g.history) }
func (g *again) floor() int { return max(g.begin, g.last()-g.keep) }

// seat is that of a session; nil, if there is none.
func (g *again) seat(session int) *seat {
	for i := range g.seats {
		if g.seats[i].session == session {
			return &g.seats[i]
		}
	}
	return nil
}

// seatAt is that of a session with a connection.
func (g *again) seatAt(session, conn int) *seat {
	if s := g.seat(session); s != nil && s.conn == conn {
		return s
	}
	return nil
}

// reason is an error with whether it applies.
type reason struct {
	applies bool
	code    api.Errno
}

func first(reasons ...reason) api.Errno {
	for _, r := range reasons {
		if r.applies {
			return r.code
		}
	}
	return api.OK
}

func isNoPlace(text string) bool {
	_, code := place.Parse(text)
	return code != api.OK
}

// covers tells by the texts alone whether a change is one for a watch.
func covers(w api.Watch, c api.Change) bool {
	if isNoPlace(w.Place) || isNoPlace(c.Place) || c.Kind < 1 || c.Kind > 3 {
		return false
	}
	rest, below := strings.CutPrefix(c.Place, strings.TrimSuffix(w.Place, "/")+"/")
	switch {
	case w.Kind < 1 || w.Kind > 3 || w.Kind == api.WatchKids && c.Kind == api.ChangeSet:
		return false
	case c.Place == w.Place:
		return true
	case w.Kind == api.WatchKids:
		return below && !strings.Contains(rest, "/")
	}
	return w.Kind == api.WatchSubtree && below
}

// taggedFor has the changes of an entry that match some watches.
func taggedFor(watches []api.Watch, stamp int, changes []api.Change) []api.Tagged {
	var list []api.Tagged
	for _, c := range changes {
		var ids []int
		for _, w := range watches {
			if w.From < stamp && covers(w, c) {
				ids = append(ids, w.Id)
			}
		}
		if ids != nil {
			slices.Sort(ids)
			list = append(list, api.Tagged{Change: c, Tags: ids})
		}
	}
	return list
}

func partsAt(m *state.Machine, watches []api.Watch) []api.Part {
	var list []api.Part
	for _, w := range watches {
		shot, _ := m.Part(w.Place, w.Kind)
		list = append(list, api.Part{Id: w.Id, Shot: shot})
	}
	slices.SortFunc(list, func(a, b api.Part) int { return a.Id - b.Id })
	return list
}

// tell tells an entry; true: the queue collapsed.
func (s *seat) tell(room, stamp int, changes []api.Change, m *state.Machine) bool {
	list := taggedFor(s.watches, stamp, changes)
	if len(list) > 0 && len(s.items) >= room {
		s.collapse(m)
		return true
	}
	if len(list) > 0 {
		s.items = append(s.items, api.Item{Stamp: stamp, After: s.last, Changes: list})
		s.last = stamp
	}
	return false
}

func (s *seat) collapse(m *state.Machine) {
	if len(s.watches) == 0 {
		return
	}
	after := slices.Concat(s.items, []api.Item{{After: s.last}})[0].After
	s.items = []api.Item{{Stamp: m.Last(), After: after, Marker: true, Parts: partsAt(m, s.watches)}}
	s.last = m.Last()
}

func (g *again) commit(c call) api.Errno {
	code := first(
		reason{g.room == 0, api.ErrArg},
		reason{c.machine == nil, api.ErrArg},
		reason{c.number != g.last()+1, api.ErrStamp},
		reason{c.number > 2147483647, api.ErrStamp},
		reason{c.machine.Last() != c.number, api.ErrStamp})
	if code == api.OK {
		g.history = append(g.history, slices.Clone(c.changes))
		for i := range g.seats {
			g.seats[i].tell(g.room, c.number, c.changes, c.machine)
		}
	}
	return code
}

// mayCome is what a trie says of the first watch that it refuses.
func mayCome(watches []api.Watch) api.Errno {
	for i, w := range watches {
		twice := slices.ContainsFunc(watches[:i], func(ahead api.Watch) bool { return ahead.Id == w.Id })
		code := first(
			reason{w.Id < 1 || w.Id > 2147483647 || w.From < 0 || w.From > 2147483647, api.ErrNumber},
			reason{isNoPlace(w.Place), api.ErrPlace},
			reason{w.Kind < 1 || w.Kind > 3 || twice, api.ErrWatch})
		if code != api.OK {
			return code
		}
	}
	return api.OK
}

func (g *again) resume(c call) api.Errno {
	old := g.seat(c.session)
	watches := mayCome(c.watches)
	ahead := slices.ContainsFunc(c.watches, func(w api.Watch) bool { return w.From > g.last() })
	code := first(
		reason{g.room == 0, api.ErrArg},
		reason{len(c.watches) > 4, api.ErrLong},
		reason{c.machine == nil, api.ErrArg},
		reason{c.session < 1 || c.session > 2147483647, api.ErrArg},
		reason{c.conn < 1 || c.conn > 2147483647, api.ErrArg},
		reason{c.number < 0 || c.number > 2147483647, api.ErrArg},
		reason{c.machine.Last() != g.last(), api.ErrStamp},
		reason{watches != api.OK, watches},
		reason{c.number > g.last() || ahead, api.ErrAhead},
		reason{old != nil && old.conn > c.conn, api.ErrOld})
	if code != api.OK || old != nil && old.conn == c.conn {
		return code
	}
	g.drop(c.session)
	g.seats = append(g.seats, g.begun(c))
	slices.SortFunc(g.seats, func(a, b seat) int { return a.session - b.session })
	return api.OK
}

// begun is a session as a Resume leaves it.
func (g *again) begun(c call) seat {
	s := seat{session: c.session, conn: c.conn, watches: slices.Clone(c.watches), last: c.number}
	slices.SortFunc(s.watches, func(a, b api.Watch) int { return a.Id - b.Id })
	if c.number < g.floor() {
		s.collapse(c.machine)
		return s
	}
	for i, changes := range g.history {
		if stamp := g.begin + i + 1; stamp > c.number && s.tell(g.room, stamp, changes, c.machine) {
			break
		}
	}
	return s
}

func (g *again) watch(c call) (api.Part, api.Errno) {
	w, s := c.watches[0], g.seatAt(c.session, c.conn)
	w.From = g.last()
	var others []api.Watch
	var old api.Watch
	if s != nil {
		for _, x := range s.watches {
			if x.Id == w.Id {
				old = x
			} else {
				others = append(others, x)
			}
		}
	}
	code := first(
		reason{g.room == 0, api.ErrArg},
		reason{c.machine == nil, api.ErrArg},
		reason{c.machine.Last() != g.last(), api.ErrStamp},
		reason{s == nil, api.ErrSession},
		reason{w.Id < 1 || w.Id > 2147483647, api.ErrNumber},
		reason{isNoPlace(w.Place), api.ErrPlace},
		reason{w.Kind < 1 || w.Kind > 3, api.ErrWatch},
		reason{old.Id != 0 && (old.Place != w.Place || old.Kind != w.Kind), api.ErrWatch},
		reason{len(others) >= 4, api.ErrFull})
	if code != api.OK {
		return api.Part{}, code
	}
	s.watches = append(others, w)
	slices.SortFunc(s.watches, func(a, b api.Watch) int { return a.Id - b.Id })
	return partsAt(c.machine, []api.Watch{w})[0], api.OK
}

func (g *again) unwatch(c call) api.Errno {
	s := g.seatAt(c.session, c.conn)
	if s == nil {
		return first(reason{g.room == 0, api.ErrArg}, reason{true, api.ErrSession})
	}
	at := slices.IndexFunc(s.watches, func(w api.Watch) bool { return w.Id == c.number })
	if at < 0 {
		return api.ErrWatch
	}
	s.watches = slices.Delete(s.watches, at, at+1)
	return api.OK
}

func (g *again) took(c call) api.Errno {
	s := g.seatAt(c.session, c.conn)
	if s == nil {
		return first(reason{g.room == 0, api.ErrArg}, reason{true, api.ErrSession})
	}
	s.items = slices.DeleteFunc(s.items, func(item api.Item) bool { return item.Stamp <= c.number })
	return api.OK
}

func (g *again) drop(session int) {
	g.seats = slices.DeleteFunc(g.seats, func(s seat) bool { return s.session == session })
}

func (g *again) next(session, number int) []api.Item {
	var list []api.Item
	if s := g.seat(session); s != nil {
		for _, item := range s.items {
			if len(list) < number {
				list = append(list, item)
			}
		}
	}
	return list
}

// call is one call of a hub.
type call struct {
	kind          string
	session, conn int
	number        int         // the stamp, the last one, the id, or at most how many
	watches       []api.Watch // of Watch: one
	changes       []api.Change
	machine       *state.Machine
}

// answer is all that a call can answer.
type answer struct {
	code    api.Errno
	number  int
	part    api.Part
	items   []api.Item
	watches []api.Watch
	lists   [3][]int
}

func (a answer) is(b answer) bool {
	for i := range a.lists {
		if !slices.Equal(a.lists[i], b.lists[i]) {
			return false
		}
	}
	return a.code == b.code && a.number == b.number && samePart(a.part, b.part) && sameAll(a.items, b.items) && slices.Equal(a.watches, b.watches)
}

func (c call) on(h *fan.Hub) (a answer) {
	switch c.kind {
	case "commit":
		a.code = h.Commit(c.number, c.changes, c.machine)
	case "resume":
		a.code = h.Resume(c.session, c.conn, c.number, c.watches, c.machine)
	case "watch":
		a.part, a.code = h.Watch(c.session, c.conn, c.watches[0], c.machine)
	case "unwatch":
		a.code = h.Unwatch(c.session, c.conn, c.number)
	case "took":
		a.code = h.Took(c.session, c.conn, c.number)
	case "next":
		a.items = h.Next(c.session, c.number)
	case "drop":
		h.Drop(c.session)
	case "clear":
		h.Clear()
	case "floor":
		a.number = h.Floor()
	case "last":
		a.number = h.Last()
	case "sessions":
		a.lists[0], a.lists[1], a.lists[2] = h.Sessions()
	case "watches":
		a.watches = h.Watches(c.session)
	default:
		panic("no call " + c.kind)
	}
	return a
}

func (c call) again(g *again) (a answer) {
	switch c.kind {
	case "commit":
		a.code = g.commit(c)
	case "resume":
		a.code = g.resume(c)
	case "watch":
		a.part, a.code = g.watch(c)
	case "unwatch":
		a.code = g.unwatch(c)
	case "took":
		a.code = g.took(c)
	case "next":
		a.items = g.next(c.session, c.number)
	case "drop":
		g.drop(c.session)
	case "clear":
		g.seats = nil
	case "floor":
		a.number = g.floor()
	case "last":
		a.number = g.last()
	case "sessions":
		for _, s := range g.seats {
			a.lists[0], a.lists[1], a.lists[2] = append(a.lists[0], s.session), append(a.lists[1], s.conn), append(a.lists[2], len(s.items))
		}
	case "watches":
		if s := g.seat(c.session); s != nil {
			a.watches = slices.Clone(s.watches)
		}
	}
	return a
}

// asked are the calls that change nothing, of some sessions.
func asked(sessions ...int) []call {
	list := []call{{kind: "floor"}, {kind: "last"}, {kind: "sessions"}}
	for _, session := range sessions {
		list = append(list, call{kind: "watches", session: session}, call{kind: "next", session: session, number: api.MaxQueue + 1})
	}
	return list
}

// isLike holds all that a hub tells of these sessions against the second reckoning.
func (g *again) isLike(t *testing.T, h *fan.Hub, sessions ...int) {
	t.Helper()
	for _, c := range asked(sessions...) {
		c.holds(t, h, g)
	}
}

// holds makes a call of both, and holds their answers against each other.
func (c call) holds(t *testing.T, h *fan.Hub, g *again) answer {
	t.Helper()
	// The machine of a call may be in its answer, so it is told by its stamp alone.
	shown := c
	shown.machine = nil
	got, want := c.on(h), c.again(g)
	if !got.is(want) {
		t.Errorf("P11.2 to P11.7: %s, the machine at %d, answers %s, want %s", tell(shown), c.machine.Last(), tell(got), tell(want))
	}
	return want
}
