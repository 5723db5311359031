package queue_test

import (
	"reflect"
	"slices"
	"strings"
	"testing"
	"unsafe"

	"herald/api"
	"herald/queue"
)

// stretch is where something lies in memory; of a list its spare room too.
type stretch struct {
	begin, end uintptr
	held       unsafe.Pointer // as long as a stretch is looked at, nothing else may come to lie there
}

func stretchAt(at unsafe.Pointer, size int) stretch {
	return stretch{uintptr(at), uintptr(at) + uintptr(size), at}
}

// memory has the stretches of all lists and texts of some values, in the room behind lists too; of a queue those of all that it keeps.
func memory(values ...any) []stretch {
	var all []stretch
	for _, v := range values {
		all = append(all, memoryOf(reflect.ValueOf(v))...)
	}
	return all
}

func memoryOf(v reflect.Value) []stretch {
	var all []stretch
	switch v.Kind() {
	case reflect.Pointer:
		return memoryOf(v.Elem())
	case reflect.String:
		all = append(all, stretchAt(unsafe.Pointer(unsafe.StringData(v.String())), v.Len()))
	case reflect.Struct:
		for i := range v.NumField() {
			all = append(all, memoryOf(v.Field(i))...)
		}
	case reflect.Slice:
		all = append(all, stretchAt(v.UnsafePointer(), v.Cap()*int(v.Type().Elem().Size())))
		v = v.Slice(0, v.Cap())
		fallthrough
	case reflect.Array:
		for i := range v.Len() {
			all = append(all, memoryOf(v.Index(i))...)
		}
	}
	return slices.DeleteFunc(all, func(s stretch) bool { return s.begin == s.end })
}

// anyMeet tells whether two of the stretches have a byte in common.
func anyMeet(all []stretch) bool {
	slices.SortFunc(all, func(a, b stretch) int { return int(a.begin) - int(b.begin) })
	for i := range max(0, len(all)-1) {
		if all[i].end > all[i+1].begin {
			return true
		}
	}
	return false
}

// roomy is a list with as much room behind its end, in which copies stand of what it has.
func roomy[T any](list []T, own func(T) T) []T {
	var all []T
	for _, x := range slices.Concat(list, list) {
		all = append(all, own(x))
	}
	return all[:len(list):len(all)]
}

// roomyTagged and roomyParts have texts of their own, and lists with room behind their ends.
func roomyTagged(changes []api.Tagged) []api.Tagged {
	return roomy(changes, func(c api.Tagged) api.Tagged {
		c.Change.Place, c.Change.Data = strings.Clone(c.Change.Place), strings.Clone(c.Change.Data)
		c.Tags = roomy(c.Tags, func(id int) int { return id })
		return c
	})
}

func roomyParts(parts []api.Part) []api.Part {
	return roomy(parts, func(p api.Part) api.Part {
		p.Shot.Place = strings.Clone(p.Shot.Place)
		p.Shot.Nodes = roomy(p.Shot.Nodes, func(n api.Seen) api.Seen {
			n.Place, n.Data = strings.Clone(n.Place), strings.Clone(n.Data)
			return n
		})
		return p
	})
}

// scribble writes over all that items have, in the room behind their lists too.
func scribble(items ...api.Item) {
	for i := range items {
		scribbleTagged(items[i].Changes)
		scribbleParts(items[i].Parts)
		items[i] = api.Item{Stamp: -7, After: -7, Marker: true}
	}
}

func scribbleTagged(changes []api.Tagged) {
	changes = changes[:cap(changes)]
	for i := range changes {
		ids := changes[i].Tags
		for k := range ids[:cap(ids)] {
			ids[:cap(ids)][k] = -7
		}
		changes[i] = api.Tagged{Change: api.Change{Kind: -7, Place: "/written", Data: "written"}}
	}
}

func scribbleParts(parts []api.Part) {
	parts = parts[:cap(parts)]
	for i := range parts {
		nodes := parts[i].Shot.Nodes
		for k := range nodes[:cap(nodes)] {
			nodes[:cap(nodes)][k] = api.Seen{Place: "/written", Data: "written", Version: -7}
		}
		parts[i] = api.Part{Id: -7, Shot: api.Shot{Place: "/written"}}
	}
}

// TestAnswersAreNew: P10.7 and W6, no two answers, nor two items of one, nor an answer and what was handed in or what the queue keeps, have memory in common, spare room and texts too.
func TestAnswersAreNew(t *testing.T) {
	for _, room := range []int{1, 3, api.MaxQueue} {
		q := made(t, room, 0)
		var all []stretch
		for stamp := 3; stamp < 3+2*room; stamp++ {
			changes, list := roomyTagged(tagged(stamp)), roomyParts(parts(stamp))
			if stamp%(room+1) == 0 || q.Put(stamp, changes) != api.OK {
				is(t, "P10.3: Collapse", q.Collapse(stamp, list), api.OK)
			}
			all = append(all, memory(changes, list)...)
			all = append(all, memory(q.Next(room), q.Next(1), q.Next(2))...)
			if stamp%4 == 0 {
				q.Took(stamp - 2)
			}
		}
		if anyMeet(append(all, memory(q)...)) {
			t.Errorf("P10.7: in a queue of %d places answers have memory in common", room)
		}
	}
}

// TestNoSpareRoom: W6, behind the lists of an answer nothing stands.
func TestNoSpareRoom(t *testing.T) {
	q := filled(t, 5, 3, 4)
	is(t, "P10.3: Collapse", q.Collapse(9, parts(9)), api.OK)
	for stamp := 10; stamp < 14; stamp++ {
		is(t, "P10.2: Put", q.Put(stamp, tagged(stamp)), api.OK)
	}
	for number := range 7 {
		items := q.Next(number)
		for _, item := range items[len(items):cap(items)] {
			if !same(item, api.Item{}) {
				t.Errorf("W6: behind Next(%d) stands %s", number, tell(item))
			}
		}
	}
}

// TestHandedInStays: P10.7, what is handed in is not changed, nor the room behind it, whether the call is refused or not.
func TestHandedInStays(t *testing.T) {
	for stamp := range 9 {
		for _, q := range []*queue.Queue{nil, {}, made(t, 2, 4), filled(t, 2, 1, 2), filled(t, 3, 2, 2)} {
			changes, list := roomyTagged(tagged(stamp)), roomyParts(parts(stamp))
			wantChanges, wantParts := roomyTagged(changes[:cap(changes)]), roomyParts(list[:cap(list)])
			q.Put(stamp, changes)
			q.Put(stamp, changes)
			q.Collapse(stamp+2, list)
			q.Put(most+1, changes)
			q.Collapse(most+1, list)
			scribble(q.Next(9)...)
			q.Took(most)
			if !slices.EqualFunc(changes[:cap(changes)], wantChanges, sameTagged) || !slices.EqualFunc(list[:cap(list)], wantParts, samePart) {
				t.Errorf("P10.7: what was handed in became %s and %s", tell(changes[:cap(changes)]), tell(list[:cap(list)]))
			}
			for i, c := range changes[:cap(changes)] {
				if !slices.Equal(c.Tags[:cap(c.Tags)], slices.Concat(wantChanges[i].Tags, wantChanges[i].Tags)) {
					t.Errorf("P10.7: the room behind tags became %v", c.Tags[:cap(c.Tags)])
				}
			}
			for i, p := range list[:cap(list)] {
				nodes := p.Shot.Nodes
				if !slices.Equal(nodes[:cap(nodes)], slices.Concat(wantParts[i].Shot.Nodes, wantParts[i].Shot.Nodes)) {
					t.Errorf("P10.7: the room behind nodes became %s", tell(nodes[:cap(nodes)]))
				}
			}
		}
	}
}

// TestNothingHandedInIsKept: P10.7, what a caller writes into his lists, and into the room behind them, does not reach the queue.
func TestNothingHandedInIsKept(t *testing.T) {
	for stamp := 1; stamp < 13; stamp++ {
		q := made(t, 2, 0)
		changes, list := roomyTagged(tagged(stamp)), roomyParts(parts(stamp+1))
		is(t, "P10.2: Put", q.Put(stamp, changes), api.OK)
		scribbleTagged(changes)
		stands(t, q, stamp, event(stamp, 0))
		is(t, "P10.3: Collapse", q.Collapse(stamp+1, list), api.OK)
		scribbleParts(list)
		stands(t, q, stamp+1, marker(stamp+1, 0))
	}
}

// TestNoTextHandedInIsKept: P10.7 and W6, what a caller writes into the bytes of his texts does not reach the queue.
func TestNoTextHandedInIsKept(t *testing.T) {
	room := []byte("/place of a node")
	text := unsafe.String(unsafe.SliceData(room), len(room))
	want := strings.Clone(text)
	q := made(t, 2, 0)
	is(t, "P10.3: Collapse", q.Collapse(1, []api.Part{{Shot: api.Shot{Place: text, Nodes: []api.Seen{{Place: text, Data: text}}}}}), api.OK)
	is(t, "P10.2: Put", q.Put(2, []api.Tagged{{Change: api.Change{Place: text, Data: text}, Tags: []int{1}}}), api.OK)
	clear(room)
	stands(t, q, 2,
		api.Item{Stamp: 1, Marker: true, Parts: []api.Part{{Shot: api.Shot{Place: want, Nodes: []api.Seen{{Place: want, Data: want}}}}}},
		api.Item{Stamp: 2, After: 1, Changes: []api.Tagged{{Change: api.Change{Place: want, Data: want}, Tags: []int{1}}}})
}

// TestSharedListsPart: P10.7, changes that came with one list of tags, and parts with one list of nodes, do not share one in the queue, nor in an answer.
func TestSharedListsPart(t *testing.T) {
	q := made(t, 2, 0)
	ids, nodes := []int{1, 2}, []api.Seen{{Place: "/shared", Data: "shared"}}
	is(t, "P10.3: Collapse", q.Collapse(1, []api.Part{{Id: 1, Shot: api.Shot{Nodes: nodes}}, {Id: 2, Shot: api.Shot{Nodes: nodes}}}), api.OK)
	is(t, "P10.2: Put", q.Put(2, []api.Tagged{{Tags: ids}, {Tags: ids}}), api.OK)
	items := q.Next(2)
	if anyMeet(memory(q, items, ids, nodes)) {
		t.Errorf("P10.7: items share lists: %s", tell(items))
	}
}

// TestEmptyListsAreNotKept: P10.7 and W6, of a list without an element the room behind its end is not kept either, nor answered.
func TestEmptyListsAreNotKept(t *testing.T) {
	q := made(t, 2, 0)
	list := roomyParts(parts(7))
	for i := range list {
		list[i].Shot.Nodes = list[i].Shot.Nodes[:0]
	}
	is(t, "P10.3: Collapse", q.Collapse(1, list), api.OK)
	items := q.Next(1)
	if anyMeet(memory(list, q, items)) || len(items[0].Parts[1].Shot.Nodes) != 0 {
		t.Errorf("P10.7: the room behind an empty list is kept: %s", tell(items))
	}
}

// TestScribbledAnswers: P10.7, whatever a caller writes into what he was told, and into the room behind it, the queue tells the same.
func TestScribbledAnswers(t *testing.T) {
	for seed := range uint64(60) {
		c := chanceOf(seed, 7)
		g := &again{room: 1 + int(seed)%5}
		q := made(t, g.room, 0)
		for range 60 {
			x := c.call(g)
			x.again(g)
			x.on(q)
			items := q.Next(c.IntN(7))
			scribble(items[:cap(items)]...)
			if stands(t, q, g.last, g.items...); t.Failed() {
				t.Fatalf("P10.7: seed %d: behind scribbled answers", seed)
			}
		}
	}
}

// TestAnswersStay: P10.7, what was answered stays as it was, whatever is called later.
func TestAnswersStay(t *testing.T) {
	q := filled(t, 3, 1, 2)
	is(t, "P10.3: Collapse", q.Collapse(4, parts(4)), api.OK)
	is(t, "P10.2: Put", q.Put(5, tagged(5)), api.OK)
	items := q.Next(9)
	for stamp := 6; stamp < 20; stamp++ {
		if q.Put(stamp, tagged(stamp)) != api.OK {
			q.Collapse(stamp, parts(stamp))
		}
		q.Took(stamp - stamp%3)
		scribble(q.Next(9)...)
	}
	if !sameAll(items, []api.Item{marker(4, 1), event(5, 4)}) {
		t.Errorf("P10.7: an answer became %s", tell(items))
	}
}

// TestLetGo: what was taken, and what went into a marker, is not held on to: the promises need none of it.
func TestLetGo(t *testing.T) {
	for _, room := range []int{1, 3, api.MaxQueue} {
		for _, ahead := range []int{0, 1, room} {
			q := filled(t, room, ahead, room)
			if len(memory(q)) == 0 {
				t.Fatal("a queue with items keeps nothing")
			}
			bare := []api.Part{{Id: 1}}
			is(t, "P10.3: Collapse", q.Collapse(ahead+room+1, bare), api.OK)
			count(t, "what a queue with a bare marker keeps", len(memory(q)), 1)
			count(t, "P10.5: Took", q.Took(most), 1)
			count(t, "what an empty queue keeps", len(memory(q)), 0)
			q = filled(t, room, ahead, room)
			count(t, "P10.5: Took", q.Took(most), room)
			count(t, "what an empty queue keeps", len(memory(q)), 0)
		}
	}
}

// TestRefusedWritesNothing: P10.7 and W3, a refused call leaves what the queue keeps where it is.
func TestRefusedWritesNothing(t *testing.T) {
	q := filled(t, 3, 2, 3)
	before := memory(q)
	for _, changes := range append(untagged(), tagged(9)) {
		q.Put(9, changes)
		q.Put(most+1, changes)
		q.Put(5, changes)
	}
	q.Collapse(9, nil)
	q.Collapse(5, parts(5))
	q.Collapse(most+1, parts(5))
	q.Took(2)
	q.Next(9)
	if !slices.Equal(memory(q), before) {
		t.Error("P10.7: a refused call wrote into the queue")
	}
	stands(t, q, 5, event(3, 2), event(4, 3), event(5, 4))
}
