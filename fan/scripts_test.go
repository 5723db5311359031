package fan_test

import (
	"slices"
	"testing"

	"herald/api"
	"herald/fan"
	"herald/state"
)

// watches are some by chance, of all kinds, with froms at and around the stamps that the hub has kept.
func (c chance) watches(g *again, number int) []api.Watch {
	ids := []int{1, 2, 3, 4, 5, most}
	c.Shuffle(len(ids), func(i, j int) { ids[i], ids[j] = ids[j], ids[i] })
	var list []api.Watch
	for i := range number {
		from := pick(c, 0, g.last(), g.last(), g.last()-1, g.floor(), g.floor()+1, g.floor()-1, g.floor()+c.IntN(1+g.last()-g.floor()))
		list = append(list, watch(ids[i%len(ids)], c.place(), 1+c.IntN(3), min(max(0, from), g.last())))
	}
	return list
}

func (c chance) place() string { return pick(c, "/", "/a", "/a", "/b", "/a/c", "/a-b", "/none") }

// spoil turns one thing of a watch into something that may not be, or that is near it.
func (c chance) spoil(g *again, list []api.Watch) []api.Watch {
	w := &list[c.IntN(len(list))]
	switch c.IntN(5) {
	case 0:
		w.Id = pick(c, 0, -1, most+1, list[0].Id)
	case 1:
		w.Place = pick(c, "", "a", "/a/", "//", "/a/b/c/d/e/f/g")
	case 2:
		w.Kind = pick(c, 0, 4, -1)
	case 3:
		w.From = pick(c, g.last()+1, g.last()+2, most, most+1, -1)
	default:
		*w = list[c.IntN(len(list))]
	}
	return list
}

// session is mostly one of a few, conn mostly its own.
func (c chance) session() int { return pick(c, 1, 2, 3, 7, 7, most) }

func (c chance) conn(g *again, session int) int {
	if s := g.seat(session); s != nil && c.IntN(12) > 0 {
		return s.conn
	}
	return pick(c, 0, 1, 2, 3, most)
}

// machine is mostly that of the hub's last stamp.
func (c chance) machine(g *again, s *story) *state.Machine {
	if c.IntN(15) == 0 {
		return pick(c, nil, s.at(pick(c, s.begin, max(s.begin, g.last()-1), min(s.end(), g.last()+1))), &state.Machine{})
	}
	return s.at(g.last())
}

func (c chance) commit(g *again, s *story) call {
	stamp := min(g.last()+1, s.end())
	x := call{kind: "commit", number: stamp, changes: s.of(stamp), machine: s.at(stamp)}
	switch c.IntN(20) {
	case 0:
		x.number = pick(c, g.last(), g.last()+2, g.floor(), 0, -1, most, most+1, pick(c, ends()...))
	case 1:
		x.machine = pick(c, nil, s.at(g.last()), s.at(s.begin), s.at(s.end()))
	case 2:
		x.changes = pick(c, nil, []api.Change{}, odd(), s.of(s.begin+c.IntN(len(s.changes))))
	}
	return x
}

// odd are changes that no machine tells, among such as it does: those of no kind or place are for nobody.
func odd() []api.Change {
	return []api.Change{
		{Kind: api.ChangeSet, Place: "/a", Data: "first", Version: -5},
		{Kind: 0, Place: "/a"}, {Kind: 4, Place: "/a"}, {Kind: -1, Place: "/"},
		{Kind: api.ChangeSet, Place: "/a/", Data: "x"}, {Kind: api.ChangeMade, Place: ""}, {Kind: api.ChangeMade, Place: "a"},
		{Kind: api.ChangeGone, Place: "/", Data: "\xff\x00", Version: most + 1},
		{Kind: api.ChangeSet, Place: "/a", Data: "first", Version: -5},
		{Kind: api.ChangeMade, Place: "/none"},
	}
}

func (c chance) resume(g *again, s *story) call {
	session := c.session()
	x := call{kind: "resume", session: session, conn: 1 + c.IntN(3), machine: c.machine(g, s)}
	if seat := g.seat(session); seat != nil {
		x.conn = pick(c, seat.conn+1, seat.conn+1, seat.conn+1, seat.conn+2, seat.conn, max(1, seat.conn-1))
	}
	x.number = max(0, pick(c, g.last(), g.last()-1, g.last()-2, g.floor(), g.floor()-1, g.floor()+1, g.floor()+c.IntN(1+g.last()-g.floor()), g.begin))
	if x.number > g.last() && c.IntN(4) > 0 {
		x.number = g.last()
	}
	if x.watches = c.watches(g, pick(c, 0, 1, 1, 2, 3, 4, 4)); len(x.watches) > 0 && c.IntN(8) == 0 {
		c.spoil(g, x.watches)
	}
	switch c.IntN(30) {
	case 0:
		x.number = pick(c, g.last()+1, -1, most, most+1, pick(c, ends()...))
	case 1:
		x.session = pick(c, 0, -7, most+1, pick(c, ends()...))
	case 2:
		x.conn = pick(c, 0, -1, most, most+1)
	case 3:
		x.watches = c.watches(g, 5)
	}
	return x
}

// watching is mostly a new watch, at times one that is there, as it is or a little off.
func (c chance) watching(g *again, s *story) call {
	session := c.session()
	x := call{kind: "watch", session: session, conn: c.conn(g, session), watches: c.watches(g, 1), machine: c.machine(g, s)}
	if seat := g.seat(session); seat != nil && len(seat.watches) > 0 && c.IntN(3) == 0 {
		x.watches = []api.Watch{pick(c, seat.watches...)}
	}
	x.watches[0].From = pick(c, 0, g.last(), most, most+1, -1)
	if c.IntN(8) == 0 {
		c.spoil(g, x.watches)
	}
	return x
}

// call is one by chance, near what may be, at times beside it.
func (c chance) call(g *again, s *story) call {
	session := c.session()
	x := call{session: session, conn: c.conn(g, session)}
	switch c.IntN(60) {
	default:
		return c.commit(g, s)
	case 0, 1, 2, 3, 4, 5, 6, 7, 8, 9:
		return c.resume(g, s)
	case 10, 11, 12, 13, 14, 15, 16, 17, 18, 19:
		return c.watching(g, s)
	case 20, 21, 22, 23:
		x.kind, x.number = "unwatch", pick(c, 1, 2, 3, 4, 5, most, pick(c, ends()...))
	case 24, 25, 26, 27, 28, 29, 30, 31:
		x.kind, x.number = "took", pick(c, g.last(), g.last()-1, g.last()-2, g.last()-c.IntN(9), pick(c, ends()...))
	case 32, 33:
		x.kind, x.number = "next", pick(c, 1, 2, g.room, pick(c, ends()...))
	case 34:
		x.kind = "drop"
	case 35:
		x.kind = pick(c, "clear", "drop", "sessions", "watches", "floor", "last")
	}
	return x
}

// stories are a few, from beginnings at both ends of the numbers.
func stories(t *testing.T) []*story {
	t.Helper()
	c := chanceOf(1, 1)
	return []*story{c.story(t, 0, 120), c.story(t, 0, 60), c.story(t, 1000, 60), c.story(t, most-60, 60), plain(t, 0), plain(t, most-10)}
}

// rooms has the smallest and the greatest rooms and keeps, and some between.
func (c chance) rooms() (int, int) {
	return pick(c, 1, 1, 2, 2, 3, 5, api.MaxQueue-1, api.MaxQueue), pick(c, 1, 2, 3, 3, 8, 20, api.MaxRing-1, api.MaxRing)
}

// TestScripts: P11.1 to P11.7, along scripts of calls by chance, refused ones among them.
func TestScripts(t *testing.T) {
	told := stories(t)
	seen := map[string]int{}
	for seed := range uint64(600) {
		c := chanceOf(seed, 11)
		s := told[int(seed)%len(told)]
		room, keep := c.rooms()
		h, g := made(t, room, keep, s.begin), &again{room: room, keep: keep, begin: s.begin}
		for step := range 250 {
			x := c.call(g, s)
			want := x.holds(t, h, g)
			seen[x.kind+" "+tell(int(want.code))]++
			for _, seat := range g.seats {
				if len(seat.items) > 0 && seat.items[0].Marker {
					seen["marker behind "+x.kind]++
				}
			}
			g.isLike(t, h, 1, 2, 3, 7, most)
			if t.Failed() {
				t.Fatalf("P11.2 to P11.7: seed %d, step %d, room %d, keep %d, begin %d", seed, step, room, keep, s.begin)
			}
		}
	}
	for _, kind := range []string{"commit 0", "commit 1", "commit 80", "resume 0", "resume 1", "resume 2", "resume 3", "resume 10", "resume 60", "resume 80", "resume 90", "resume 110", "watch 0", "watch 1", "watch 3", "watch 10", "watch 46", "watch 80", "watch 81", "watch 90", "unwatch 0", "unwatch 81", "unwatch 90", "took 0", "took 81", "next 0", "drop 0", "clear 0", "marker behind commit", "marker behind resume"} {
		if seen[kind] < 100 {
			t.Errorf("the scripts have %q only %d times", kind, seen[kind])
		}
	}
}

// letters are the calls of small scripts, by what the hub is then.
func letters(g *again, s *story) []call {
	now, next := s.at(g.last()), min(g.last()+1, s.end())
	conn := 1
	if seat := g.seat(7); seat != nil {
		conn = seat.conn
	}
	return []call{
		{kind: "commit", number: next, changes: s.of(next), machine: s.at(next)},
		{kind: "resume", session: 7, conn: conn + 1, number: g.floor(), watches: []api.Watch{watch(1, "/a", api.WatchNode, 0)}, machine: now},
		{kind: "resume", session: 7, conn: conn + 1, number: max(0, g.floor()-1), watches: []api.Watch{all(2, g.last())}, machine: now},
		{kind: "resume", session: 8, conn: 1, number: g.last(), machine: now},
		{kind: "watch", session: 7, conn: conn, watches: []api.Watch{all(2, 0)}, machine: now},
		{kind: "watch", session: 8, conn: 1, watches: []api.Watch{all(2, 0)}, machine: now},
		{kind: "unwatch", session: 7, conn: conn, number: 1},
		{kind: "took", session: 7, conn: conn, number: g.last() - 1},
		{kind: "took", session: 8, conn: 1, number: g.last()},
		{kind: "drop", session: 7},
	}
}

// TestAllSmallScripts: P11.2 to P11.7, all scripts of up to four calls out of ten, behind one, three and five entries, in rooms and keeps of one and two.
func TestAllSmallScripts(t *testing.T) {
	s := plain(t, 0)
	for _, room := range []int{1, 2} {
		for _, keep := range []int{1, 2} {
			for _, ahead := range []int{1, 3, 5} {
				var script []int
				small(t, s, &again{room: room, keep: keep}, ahead, script)
			}
		}
	}
}

// small makes a script on a new hub, and then all that are longer.
func small(t *testing.T, s *story, g *again, ahead int, script []int) {
	const longest = 4
	h, fresh := made(t, g.room, g.keep, g.begin), g.copied()
	for stamp := 1; stamp <= ahead; stamp++ {
		call{kind: "commit", number: stamp, changes: s.of(stamp), machine: s.at(stamp)}.holds(t, h, fresh)
	}
	for _, number := range script {
		letters(fresh, s)[number].holds(t, h, fresh)
	}
	if fresh.isLike(t, h, 7, 8); t.Failed() {
		t.Fatalf("P11.2 to P11.7: room %d, keep %d, %d entries, then the calls %v", g.room, g.keep, ahead, script)
	}
	if len(script) < longest {
		for number := range letters(fresh, s) {
			small(t, s, g, ahead, append(slices.Clone(script), number))
		}
	}
}

// TestAlike: W2, two hubs that are given the same calls answer the same, also if one of them is asked more in between, and refused.
func TestAlike(t *testing.T) {
	s := chanceOf(2, 2).story(t, 0, 80)
	for seed := range uint64(60) {
		c := chanceOf(seed, 2)
		room, keep := c.rooms()
		g := &again{room: room, keep: keep}
		one, other := made(t, room, keep, 0), made(t, room, keep, 0)
		for range 120 {
			x := c.call(g, s)
			x.again(g)
			for _, y := range asked(1, 7, most) {
				y.on(other)
			}
			refuse(other, s)
			if a, b := x.on(one), x.on(other); !a.is(b) {
				t.Fatalf("W2: seed %d: %s answers %s and %s", seed, x.kind, tell(a), tell(b))
			}
		}
	}
}

// refuse makes calls that are refused, whatever the hub is.
func refuse(h *fan.Hub, s *story) {
	m := s.at(min(h.Last(), s.end()))
	h.Commit(h.Last(), odd(), m)
	h.Commit(h.Last()+1, odd(), m)
	h.Commit(h.Last()+1, odd(), nil)
	h.Resume(7, most, h.Last()+1, nil, m)
	h.Resume(7, most, h.Last(), make([]api.Watch, 5), m)
	h.Resume(7, most, h.Last(), []api.Watch{all(1, 0), all(1, 0)}, m)
	h.Resume(7, most, h.Last(), nil, nil)
	h.Watch(7, -1, all(1, 0), m)
	h.Watch(7, most, all(0, 0), m)
	h.Unwatch(7, -1, 1)
	h.Unwatch(7, 1, -1)
	h.Took(7, -1, most)
}
