package fan_test

import (
	"slices"
	"testing"

	"herald/api"
	"herald/fan"
	"herald/shot"
)

// told is what a session was told since it was resumed, by what the hub shows ahead of and behind every call.
type told struct {
	begin   int        // it was resumed behind this stamp
	matched []int      // the entries above begin that matched a watch of it when they were told
	items   []api.Item // all that its queue was given
	count   int        // of items in its queue
}

// given is what a queue was given by a call: what stands behind the last item that it was given before.
func (x *told) given(items []api.Item) []api.Item {
	last := x.begin
	if len(x.items) > 0 {
		last = x.items[len(x.items)-1].Stamp
	}
	return slices.DeleteFunc(slices.Clone(items), func(item api.Item) bool { return item.Stamp <= last })
}

// holds holds P11.8: stamps that rise, and no entry that matched left out, but what a marker says.
func (x *told) holds(t *testing.T) {
	t.Helper()
	last, marker := x.begin, x.begin
	for _, item := range x.items {
		if item.Stamp <= last {
			t.Errorf("P11.8: %d is given behind %d", item.Stamp, last)
		}
		if last = item.Stamp; item.Marker {
			marker = item.Stamp
		}
	}
	for _, stamp := range x.matched {
		if stamp > marker && !slices.ContainsFunc(x.items, func(item api.Item) bool { return item.Stamp == stamp }) {
			t.Errorf("P11.8: the entry %d matched, and is left out", stamp)
		}
	}
	for _, item := range x.items {
		if !item.Marker && !slices.Contains(x.matched, item.Stamp) {
			t.Errorf("P11.8: the entry %d matched nothing, and is told", item.Stamp)
		}
	}
}

// matches tells whether an entry is one for a session as it is now.
func matches(h *fan.Hub, session, stamp int, changes []api.Change) bool {
	return len(taggedFor(h.Watches(session), stamp, changes)) > 0
}

// TestAllIsTold: P11.8 and P11.9, along scripts by chance: what each session is given tells every entry that matched, or a marker does; and a marker comes only where one may.
func TestAllIsTold(t *testing.T) {
	s := chanceOf(3, 3).story(t, 0, 110)
	markers, events := 0, 0
	for seed := range uint64(150) {
		c := chanceOf(seed, 8)
		room, keep := c.rooms()
		h, g := made(t, room, keep, 0), &again{room: room, keep: keep}
		seats := map[int]*told{}
		changes := [][]api.Change{nil}
		for range 200 {
			x := c.call(g, s)
			x.again(g)
			full := map[int]bool{} // the queue was full, and one more entry matches
			was, _, _ := h.Sessions()
			if x.kind == "commit" && x.on(h).code == api.OK {
				changes = append(changes, x.changes)
				for _, session := range was {
					if matches(h, session, x.number, x.changes) {
						seats[session].matched = append(seats[session].matched, x.number)
						full[session] = seats[session].count == room
					}
				}
			} else if x.kind == "resume" {
				old := seatOf(h, x.session)
				if x.on(h).code == api.OK && old != x.conn {
					seats[x.session], full[x.session] = resumedAt(h, room, x, changes)
				}
			} else if x.kind != "commit" {
				x.on(h)
			}
			now, _, counts := h.Sessions()
			for i, session := range now {
				items := h.Next(session, 99)
				for _, item := range seats[session].given(items) {
					if item.Marker != full[session] {
						t.Errorf("P11.9: the queue of %d, full and one more: %v, is given %s", session, full[session], tell(item))
					}
					if seats[session].items = append(seats[session].items, item); item.Marker {
						markers++
					} else {
						events++
					}
				}
				seats[session].holds(t)
				if seats[session].count = counts[i]; counts[i] > room || counts[i] != len(items) {
					t.Errorf("P11.9: %d items, %d told, in a room of %d", counts[i], len(items), room)
				}
			}
			if h.Last()-h.Floor() > keep {
				t.Errorf("P11.9: the floor %d, the last %d, a keep of %d", h.Floor(), h.Last(), keep)
			}
			if t.Failed() {
				t.Fatalf("P11.8, P11.9: seed %d, behind %s", seed, x.kind)
			}
		}
	}
	if markers < 1000 || events < 5000 {
		t.Errorf("only %d markers and %d events", markers, events)
	}
}

// seatOf is the connection of a session, 0: it is not there.
func seatOf(h *fan.Hub, session int) int {
	all, conns, _ := h.Sessions()
	if at := slices.Index(all, session); at >= 0 {
		return conns[at]
	}
	return 0
}

// resumedAt is what a session was told that was just resumed, and whether its queue must have collapsed.
func resumedAt(h *fan.Hub, room int, x call, changes [][]api.Change) (*told, bool) {
	now := &told{begin: x.number}
	if x.number < h.Floor() {
		return now, len(x.watches) > 0
	}
	for stamp := x.number + 1; stamp <= h.Last(); stamp++ {
		if matches(h, x.session, stamp, changes[stamp]) {
			now.matched = append(now.matched, stamp)
		}
	}
	return now, len(now.matched) > room
}

// viewer is a client that holds pictures, as P11.10 says.
type viewer struct {
	session, conn, last int
	pictures            map[int]api.Shot
	watches             map[int]api.Watch
	lastId              int
	again               bool // ids are given again: so what its queue was given ahead of a watch is not taken over for it
}

// asks adds a watch, or asks for one again; its picture begins with what it is told.
func (v *viewer) asks(x hall, c chance) {
	if len(v.watches) > 0 && c.IntN(3) == 0 {
		for _, id := range sorted(v.watches) {
			if c.IntN(2) == 0 {
				v.grant(x, v.watches[id])
			}
		}
		return
	}
	if len(v.watches) < api.MaxWatches {
		v.grant(x, watch(v.id(), c.place(), 1+c.IntN(3), 0))
	}
}

// id is one that no watch has now; or, if they are not given again, none ever had.
func (v *viewer) id() int {
	if v.again {
		v.lastId = 0
	}
	for taken := true; taken; _, taken = v.watches[v.lastId] {
		v.lastId++
	}
	return v.lastId
}

func (v *viewer) grant(x hall, w api.Watch) {
	part, code := x.Watch(v.session, v.conn, w, x.now())
	if code != api.OK || part.Id != w.Id || part.Shot.Stamp != x.Last() {
		x.t.Errorf("P11.4: Watch(%+v) = %s, %d at %d", w, tell(part), code, x.Last())
	}
	w.From = x.Last()
	v.watches[w.Id], v.pictures[w.Id] = w, part.Shot
	v.sees(x, x.Last(), w.Id)
}

func (v *viewer) leaves(x hall, c chance) {
	if len(v.watches) > 0 {
		id := pick(c, sorted(v.watches)...)
		is(x.t, "P11.5: Unwatch", x.Unwatch(v.session, v.conn, id), api.OK)
		delete(v.watches, id)
		delete(v.pictures, id)
	}
}

// resumes comes back with what it has, at times with an older connection's rest still in the queue.
func (v *viewer) resumes(x hall) {
	v.conn++
	var list []api.Watch
	for _, id := range sorted(v.watches) {
		list = append(list, v.watches[id])
	}
	x.resume(v.session, v.conn, v.last, list...)
}

// takes takes the first item over, if there is one.
func (v *viewer) takes(x hall) (took, marker bool) {
	items := x.Next(v.session, 1)
	if len(items) == 0 {
		return false, false
	}
	item := items[0]
	for _, id := range sorted(v.pictures) {
		v.takesOver(x, item, id)
	}
	v.last = item.Stamp
	is(x.t, "P11.6: Took", x.Took(v.session, v.conn, item.Stamp), api.OK)
	return true, item.Marker
}

// takesOver turns one picture by an item.
func (v *viewer) takesOver(x hall, item api.Item, id int) {
	if v.again && item.Stamp <= v.watches[id].From {
		return
	}
	for _, part := range item.Parts {
		if part.Id == id {
			v.pictures[id] = part.Shot
			v.sees(x, item.Stamp, id)
		}
	}
	if item.Marker || item.Stamp <= v.pictures[id].Stamp {
		return
	}
	var own []api.Change
	for _, c := range item.Changes {
		if slices.Contains(c.Tags, id) {
			own = append(own, c.Change)
		}
	}
	picture, code := shot.Fold(v.pictures[id], item.Stamp, own)
	is(x.t, "P11.10: Fold of "+tell(own)+" into "+tell(v.pictures[id]), code, api.OK)
	v.pictures[id] = picture
	v.sees(x, item.Stamp, id)
}

// sees holds that a picture is the machine's part at a stamp.
func (v *viewer) sees(x hall, stamp, id int) {
	want := x.part(stamp, v.watches[id])
	if got := v.pictures[id]; got.Stamp != stamp || !shot.Same(got, want) {
		x.t.Errorf("P11.10: at %d the picture %d of session %d is %s, want %s", stamp, id, v.session, tell(got), tell(want))
	}
}

func sorted[T any](m map[int]T) []int {
	var keys []int
	for key := range m {
		keys = append(keys, key)
	}
	slices.Sort(keys)
	return keys
}

// TestPictures: P11.10, pictures that are folded by what is told are the machine's own part behind every item, and at last when all is taken; for sessions that are slow and quick, that come back, and that ask for more and for less.
func TestPictures(t *testing.T) {
	stories := []*story{chanceOf(4, 4).story(t, 0, 130), chanceOf(5, 4).story(t, most-130, 130)}
	takes, markers := 0, 0
	for seed := range uint64(200) {
		c := chanceOf(seed, 10)
		s := stories[seed%2]
		room, keep := c.rooms()
		x := hallOf(t, room, keep, s)
		var viewers []*viewer
		for session := 1; session <= 4; session++ {
			v := &viewer{session: session, last: s.begin, pictures: map[int]api.Shot{}, watches: map[int]api.Watch{}, again: session%2 == 0}
			v.resumes(x)
			viewers = append(viewers, v)
		}
		for x.Last() < s.end() && !t.Failed() {
			v := pick(c, viewers...)
			switch c.IntN(9) {
			default:
				x.commit(x.Last() + 1)
			case 0, 1, 2:
				for range c.IntN(2 * v.session) {
					if took, marker := v.takes(x); marker {
						markers++
					} else if took {
						takes++
					}
				}
			case 3:
				v.asks(x, c)
			case 4:
				if c.IntN(3) == 0 {
					v.leaves(x, c)
				} else {
					v.resumes(x)
				}
			}
		}
		for _, v := range viewers {
			v.isUpToDate(x)
		}
		if t.Failed() {
			t.Fatalf("P11.10: seed %d, room %d, keep %d", seed, room, keep)
		}
	}
	if takes < 5000 || markers < 500 {
		t.Errorf("only %d events and %d markers were taken", takes, markers)
	}
}

// isUpToDate takes all that is left: then the pictures have the nodes that there are now.
func (v *viewer) isUpToDate(x hall) {
	for took, _ := v.takes(x); took; took, _ = v.takes(x) {
	}
	for id, picture := range v.pictures {
		if want := x.part(x.Last(), v.watches[id]); !shot.Same(picture, want) {
			x.t.Errorf("P11.10: in the end the picture %d of session %d is %s, want %s", id, v.session, tell(picture), tell(want))
		}
	}
}

// ofSession tells whether a call is of one session alone; and whether it is of this one.
func ofSession(x call, session int) (bool, bool) {
	switch x.kind {
	case "commit", "clear", "floor", "last", "sessions":
		return false, true
	}
	return true, x.session == session
}

// TestSessionsAlone: P11.11, what a hub answers for a session is what a hub with this session alone answers, whatever is called of others.
func TestSessionsAlone(t *testing.T) {
	s := chanceOf(6, 6).story(t, 0, 110)
	sessions := []int{1, 2, 3, 7, most}
	for seed := range uint64(100) {
		c := chanceOf(seed, 11)
		room, keep := c.rooms()
		h, g := made(t, room, keep, 0), &again{room: room, keep: keep}
		alone := map[int]*fan.Hub{}
		for _, session := range sessions {
			alone[session] = made(t, room, keep, 0)
		}
		for range 200 {
			x := c.call(g, s)
			x.again(g)
			got := x.on(h)
			for session, other := range alone {
				own, mine := ofSession(x, session)
				if !mine {
					continue
				}
				if want := x.on(other); !got.is(want) && (own || x.kind != "sessions") {
					t.Errorf("P11.11: %s answers %s, alone %s", tell(x.kind), tell(got), tell(want))
				}
				isAlone(t, h, other, session)
			}
			if t.Failed() {
				t.Fatalf("P11.11: seed %d, behind %s of %d", seed, x.kind, x.session)
			}
		}
	}
}

// isAlone holds what two hubs tell of a session against each other.
func isAlone(t *testing.T, h, alone *fan.Hub, session int) {
	t.Helper()
	for _, x := range asked(session) {
		got, want := x.on(h), x.on(alone)
		if x.kind == "sessions" {
			got.lists, want.lists = seatIn(got.lists, session), seatIn(want.lists, session)
		}
		if !got.is(want) {
			t.Errorf("P11.11: %s of %d answers %s, alone %s", x.kind, session, tell(got), tell(want))
		}
	}
}

// seatIn is what Sessions tells of one of them.
func seatIn(lists [3][]int, session int) [3][]int {
	at := slices.Index(lists[0], session)
	if at < 0 {
		return [3][]int{}
	}
	return [3][]int{lists[0][at : at+1], lists[1][at : at+1], lists[2][at : at+1]}
}
