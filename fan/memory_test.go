package fan_test

import (
	"reflect"
	"slices"
	"strings"
	"testing"
	"unsafe"

	"herald/api"
	"herald/fan"
	"herald/state"
)

// stretch is where something lies in memory; of a list its spare room too.
type stretch struct {
	begin, end uintptr
	held       unsafe.Pointer // as long as a stretch is looked at, nothing else may come to lie there
}

func stretchAt(at unsafe.Pointer, size int) stretch {
	return stretch{uintptr(at), uintptr(at) + uintptr(size), at}
}

// memory has the stretches of all lists and texts of a value, in the room behind lists too; of a hub or a machine those of all that it keeps, each once.
func memory(v any) []stretch {
	var all []stretch
	each(reflect.ValueOf(v), map[unsafe.Pointer]bool{}, func(v reflect.Value) {
		switch v.Kind() {
		case reflect.String:
			all = append(all, stretchAt(unsafe.Pointer(unsafe.StringData(v.String())), v.Len()))
		case reflect.Slice:
			all = append(all, stretchAt(v.UnsafePointer(), v.Cap()*int(v.Type().Elem().Size())))
		}
	})
	return slices.DeleteFunc(all, func(s stretch) bool { return s.begin == s.end })
}

// each goes through a value and all that it leads to, behind every pointer once.
func each(v reflect.Value, been map[unsafe.Pointer]bool, visit func(reflect.Value)) {
	visit(v)
	switch v.Kind() {
	case reflect.Pointer:
		if at := v.UnsafePointer(); at != nil && !been[at] {
			been[at] = true
			each(v.Elem(), been, visit)
		}
	case reflect.Struct:
		for i := range v.NumField() {
			each(v.Field(i), been, visit)
		}
	case reflect.Map:
		for entries := v.MapRange(); entries.Next(); {
			each(entries.Key(), been, visit)
			each(entries.Value(), been, visit)
		}
	case reflect.Slice:
		for i := range v.Cap() {
			each(v.Slice(0, v.Cap()).Index(i), been, visit)
		}
	case reflect.Array:
		for i := range v.Len() {
			each(v.Index(i), been, visit)
		}
	}
}

// owned is a stretch with the number of what it belongs to.
type owned struct {
	stretch
	owner int
}

// anyMeet tells whether two of the values have memory in common; those from alone on not even two lists within one of them.
func anyMeet(alone int, values ...any) bool {
	var all []owned
	for i, v := range values {
		for k, s := range memory(v) {
			owner := i
			if i >= alone {
				owner = len(values) + len(all) + k
			}
			all = append(all, owned{s, owner})
		}
	}
	slices.SortFunc(all, func(a, b owned) int { return int(a.begin) - int(b.begin) })
	end, owner := uintptr(0), -1
	for _, s := range all {
		if s.begin < end && s.owner != owner {
			return true
		}
		if s.end > end {
			end, owner = s.end, s.owner
		}
	}
	return false
}

// roomyChanges and roomyWatches have texts of their own, and as much room behind their ends, in which copies stand.
func roomyChanges(list []api.Change) []api.Change {
	var all []api.Change
	for _, c := range slices.Concat(list, list) {
		c.Place, c.Data = strings.Clone(c.Place), strings.Clone(c.Data)
		all = append(all, c)
	}
	return all[:len(list):len(all)]
}

func roomyWatches(list []api.Watch) []api.Watch {
	var all []api.Watch
	for _, w := range slices.Concat(list, list) {
		w.Place = strings.Clone(w.Place)
		all = append(all, w)
	}
	return all[:len(list):len(all)]
}

func scribbleChanges(list []api.Change) {
	for i := range list[:cap(list)] {
		list[:cap(list)][i] = api.Change{Kind: api.ChangeSet, Place: "/written", Data: "written", Version: -7}
	}
}

func scribbleWatches(list []api.Watch) {
	for i := range list[:cap(list)] {
		list[:cap(list)][i] = api.Watch{Id: 77, Place: "/written", Kind: api.WatchKids, From: 7}
	}
}

func scribblePart(part api.Part) {
	nodes := part.Shot.Nodes
	for i := range nodes[:cap(nodes)] {
		nodes[:cap(nodes)][i] = api.Seen{Place: "/written", Data: "written", Version: -7}
	}
}

// scribbleItems writes over all that items have, in the room behind their lists too.
func scribbleItems(items []api.Item) {
	items = items[:cap(items)]
	for i, item := range items {
		changes, parts := item.Changes[:cap(item.Changes)], item.Parts[:cap(item.Parts)]
		for k, c := range changes {
			for n := range c.Tags[:cap(c.Tags)] {
				c.Tags[:cap(c.Tags)][n] = -7
			}
			changes[k] = api.Tagged{Change: api.Change{Kind: -7, Place: "/written"}}
		}
		for k, p := range parts {
			scribblePart(p)
			parts[k] = api.Part{Id: -7}
		}
		items[i] = api.Item{Stamp: -7, After: -7, Marker: true}
	}
}

// scribble writes over all that a call answered.
func (a answer) scribble() {
	scribblePart(a.part)
	scribbleItems(a.items)
	scribbleWatches(a.watches)
	for _, list := range a.lists {
		for i := range list[:cap(list)] {
			list[:cap(list)][i] = -7
		}
	}
}

// pieces has what an answer is made of, each by itself.
func (a answer) pieces() []any {
	return []any{a.part, a.items, a.watches, a.lists[0], a.lists[1], a.lists[2]}
}

// own is a call with lists and texts of its own, and room behind the lists.
func (c call) own() call {
	c.changes, c.watches = roomyChanges(c.changes), roomyWatches(c.watches)
	return c
}

// TestAnswersAreNew: P11.12 and W6, no two answers, nor two items of one, have memory in common, spare room and texts too; nor an answer, what was handed in, what the hub keeps, and what the machines keep.
func TestAnswersAreNew(t *testing.T) {
	s := chanceOf(7, 7).story(t, 0, 60)
	for seed := range uint64(40) {
		c := chanceOf(seed, 12)
		room, keep := pick(c, 1, 2, 5), pick(c, 2, 9, 64)
		h, g := made(t, room, keep, 0), &again{room: room, keep: keep}
		values := []any{h, s.machines}
		var answers []any
		for range 60 {
			x := c.call(g, s)
			x.again(g)
			x = x.own()
			values = append(values, x.changes, x.watches)
			answers = append(answers, x.on(h).pieces()...)
			for _, y := range asked(1, 7) {
				answers = append(answers, y.on(h).pieces()...)
			}
		}
		if anyMeet(len(values), append(values, answers...)...) {
			t.Fatalf("P11.12: seed %d: answers, arguments and what is kept have memory in common", seed)
		}
	}
}

// TestHandedInStays: P11.12, what is handed in is not changed, nor the room behind it, whether the call is refused or not.
func TestHandedInStays(t *testing.T) {
	s := plain(t, 0)
	for seed := range uint64(100) {
		c := chanceOf(seed, 13)
		h, g := made(t, 2, 3, 0), &again{room: 2, keep: 3}
		for range 60 {
			x := c.call(g, s)
			x.again(g)
			x = x.own()
			was := x.own()
			machine := x.machine.Freeze()
			for _, h := range []*fan.Hub{nil, {}, h, h} {
				x.on(h).scribble()
			}
			if changes := x.changes[:cap(x.changes)]; !slices.Equal(changes, slices.Concat(was.changes, was.changes)) {
				t.Fatalf("P11.12: behind %s the changes handed in are %s", x.kind, tell(changes))
			}
			if list := x.watches[:cap(x.watches)]; !slices.Equal(list, slices.Concat(was.watches, was.watches)) {
				t.Fatalf("P11.12: behind %s the watches handed in are %s", x.kind, tell(list))
			}
			if x.machine.Freeze() != machine {
				t.Fatalf("P11.12: %s turns the machine", x.kind)
			}
		}
	}
}

// TestScribbled: P11.12, whatever a caller writes into what he handed in, and into what he was told, and into the room behind both, the hub goes on as it would.
func TestScribbled(t *testing.T) {
	s := chanceOf(8, 8).story(t, 0, 60)
	for seed := range uint64(100) {
		c := chanceOf(seed, 14)
		room, keep := c.rooms()
		h, g := made(t, room, keep, 0), &again{room: room, keep: keep}
		for range 100 {
			x := c.call(g, s)
			x.again(g)
			x = x.own()
			x.on(h).scribble()
			scribbleChanges(x.changes)
			scribbleWatches(x.watches)
			for _, y := range asked(1, 2, 3, 7, most) {
				y.on(h).scribble()
			}
			if g.isLike(t, h, 1, 2, 3, 7, most); t.Failed() {
				t.Fatalf("P11.12: seed %d: behind %s, scribbled over", seed, x.kind)
			}
		}
	}
}

// TestNoTextHandedInIsKept: P11.12 and W6, what a caller writes into the bytes of his texts does not reach the hub.
func TestNoTextHandedInIsKept(t *testing.T) {
	s := storyOf(t, 0, opens(7), asks(7, 1, makes("/place", "")), asks(7, 2, sets("/place", "")))
	text := func(room []byte) string { return unsafe.String(unsafe.SliceData(room), len(room)) }
	at, data := []byte("/place"), []byte("data of it")
	x := hallOf(t, 1, 9, s)
	x.resume(7, 1, 0, watch(1, text(at), api.WatchNode, 0))
	x.watches(7, 1, watch(2, text(at), api.WatchSubtree, 0))
	x.commit(1)
	is(t, "P11.2: Commit", x.Commit(2, []api.Change{{Kind: api.ChangeMade, Place: text(at), Data: text(data)}}, x.at(2)), api.OK)
	x.resume(8, 1, 0, watch(1, text(at), api.WatchKids, 0))
	clear(at)
	clear(data)
	change := api.Change{Kind: api.ChangeMade, Place: "/place", Data: "data of it"}
	want := api.Item{Stamp: 2, Changes: []api.Tagged{{Change: change, Tags: []int{1, 2}}}}
	x.has(7, watch(1, "/place", api.WatchNode, 0), watch(2, "/place", api.WatchSubtree, 0))
	x.tells(7, want)
	x.resume(7, 2, 0, x.Watches(7)...)
	x.tells(7, want)
	x.commit(3)
	x.tells(7, x.marker(3, 0, watch(1, "/place", api.WatchNode, 0), watch(2, "/place", api.WatchSubtree, 0)))
	x.has(8, watch(1, "/place", api.WatchKids, 0))
}

// TestMachineIsNotKept: P11.12, the hub holds on to no machine, and what it was told of one stays, whatever that one plays later.
func TestMachineIsNotKept(t *testing.T) {
	s := busy(t, 0, 4)
	m := state.New()
	h := made(t, 1, 2, 0)
	plays := func(ops ...api.Op) []api.Change {
		e := asks(7, m.Last(), ops...)
		if e.Stamp, e.View = m.Last()+1, 1; len(ops) == 0 {
			e.Kind, e.Request = api.EntryOpen, 0
		}
		_, changes, code := m.Apply(e)
		is(t, "P8.1: Apply", code, api.OK)
		return changes
	}
	is(t, "P11.2: Commit", h.Commit(1, plays(), m), api.OK)
	is(t, "P11.3: Resume", h.Resume(7, 1, 1, []api.Watch{all(1, 0)}, m), api.OK)
	is(t, "P11.2: Commit", h.Commit(2, plays(makes("/a", "")), m), api.OK)
	is(t, "P11.2: Commit", h.Commit(3, plays(sets("/a", "0")), m), api.OK)
	marker := hall{t, h, s}.marker(3, 1, all(1, 0))
	part, code := h.Watch(7, 1, all(1, 0), m)
	is(t, "P11.4: Watch", code, api.OK)
	plays(sets("/a", "later"), makes("/b", ""))
	plays(drops("/a"))
	hall{t, h, s}.tells(7, marker)
	if !samePart(part, marker.Parts[0]) {
		t.Errorf("P11.4: the part that was told became %s", tell(part))
	}
	each(reflect.ValueOf(h), map[unsafe.Pointer]bool{}, func(v reflect.Value) {
		if v.Type() == reflect.TypeFor[*state.Machine]() {
			t.Error("P11.12: a machine is kept")
		}
	})
}

// TestAnswersStay: P11.12, what was answered stays as it was, whatever is called later.
func TestAnswersStay(t *testing.T) {
	s := chanceOf(9, 9).story(t, 0, 60)
	for seed := range uint64(30) {
		c := chanceOf(seed, 15)
		h, g := made(t, 2, 4, 0), &again{room: 2, keep: 4}
		var got, want []answer
		for range 60 {
			x := c.call(g, s)
			want, got = append(want, x.again(g)), append(got, x.on(h))
			for _, y := range asked(1, 7) {
				want, got = append(want, y.again(g)), append(got, y.on(h))
			}
		}
		h.Clear()
		for i := range got {
			if !got[i].is(want[i]) {
				t.Fatalf("P11.12: seed %d: an answer became %s, want %s", seed, tell(got[i]), tell(want[i]))
			}
		}
	}
}

// texts counts the texts that a hub holds on to.
func texts(h *fan.Hub) int {
	number := 0
	each(reflect.ValueOf(h), map[unsafe.Pointer]bool{}, func(v reflect.Value) {
		if v.Kind() == reflect.String && v.Len() > 0 {
			number++
		}
	})
	return number
}

// TestLetGo: what falls out of the memory, and what is there of a session no longer, is not held on to: the promises need none of it.
func TestLetGo(t *testing.T) {
	s := busy(t, 0, 20)
	for _, forget := range []func(*fan.Hub){func(h *fan.Hub) { h.Drop(7); h.Drop(8) }, (*fan.Hub).Clear} {
		for _, keep := range []int{1, 3, 8} {
			x := hallOf(t, 2, keep, s)
			x.resume(7, 1, 0, all(1, 0), watch(2, "/a/b", 1, 0))
			x.resume(8, 1, 0, all(1, 0))
			x.commit(10)
			if texts(x.Hub) == 0 {
				t.Fatal("a hub with sessions and a memory keeps no text")
			}
			forget(x.Hub)
			count(t, "the texts of a memory of "+tell(keep)+" alone", texts(x.Hub), 2*keep)
			for stamp := 11; stamp < 11+keep; stamp++ {
				is(t, "P11.2: Commit", x.Commit(stamp, nil, x.at(stamp)), api.OK)
			}
			count(t, "the texts of a memory without changes", texts(x.Hub), 0)
		}
	}
	x := hallOf(t, 2, 1, s)
	x.commit(1)
	x.resume(7, 1, 1, all(1, 0), watch(2, "/a/b", 1, 0))
	is(t, "P11.5: Unwatch", x.Unwatch(7, 1, 1), api.OK)
	is(t, "P11.5: Unwatch", x.Unwatch(7, 1, 2), api.OK)
	count(t, "the texts of a session without watches", texts(x.Hub), 0)
}

// TestRefusedWritesNothing: W3, a refused call, and a Resume of the same connection, leaves what the hub keeps where it is.
func TestRefusedWritesNothing(t *testing.T) {
	s := plain(t, 0)
	h, _ := manned(t, s)
	before := memory(h)
	refuse(h, s)
	h.Resume(7, 1, 4, nil, s.at(4))
	h.Resume(7, 5, 4, []api.Watch{all(3, 0)}, s.at(4))
	h.Watch(7, 5, watch(2, "/b", 1, 0), s.at(4))
	h.Drop(6)
	for _, x := range asked(7, 8) {
		x.on(h)
	}
	after := memory(h)
	for _, list := range [][]stretch{before, after} {
		slices.SortFunc(list, func(a, b stretch) int { return int(a.begin) - int(b.begin) })
	}
	if !slices.Equal(before, after) {
		t.Error("W3: a refused call wrote into the hub")
	}
}
