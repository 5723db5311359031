package node_test

import (
	"bytes"
	"reflect"
	"slices"
	"testing"
	"unsafe"

	"herald/api"
	"herald/node"
)

// stretch is where something lies in memory; of a list its spare room too.
type stretch struct {
	begin, end uintptr
	owner      int
	held       unsafe.Pointer // as long as a stretch is looked at, nothing else may come to lie there
}

// memory has the stretches of all lists and texts of a value, in the room behind lists too; of a node those of all that it keeps.
func memory(v any) []stretch {
	var all []stretch
	add := func(at unsafe.Pointer, size int) {
		if size > 0 {
			all = append(all, stretch{begin: uintptr(at), end: uintptr(at) + uintptr(size), held: at})
		}
	}
	each(reflect.ValueOf(v), map[unsafe.Pointer]bool{}, func(v reflect.Value) {
		switch v.Kind() {
		case reflect.String:
			if v.Len() == 1 {
				break // Go itself has one text for each byte
			}
			add(unsafe.Pointer(unsafe.StringData(v.String())), v.Len())
		case reflect.Slice:
			add(v.UnsafePointer(), v.Cap()*int(v.Type().Elem().Size()))
		}
	})
	return all
}

// each goes through a value and all that it leads to, behind every pointer once.
func each(v reflect.Value, been map[unsafe.Pointer]bool, visit func(reflect.Value)) {
	visit(v)
	switch v.Kind() {
	case reflect.Pointer:
		if at := v.UnsafePointer(); at != nil && !been[at] {
			been[at] = true
			each(v.Elem(), been, visit)
		}
	case reflect.Struct:
		for i := range v.NumField() {
			each(v.Field(i), been, visit)
		}
	case reflect.Map:
		for entries := v.MapRange(); entries.Next(); {
			each(entries.Key(), been, visit)
			each(entries.Value(), been, visit)
		}
	case reflect.Slice:
		v = v.Slice(0, v.Cap())
		fallthrough
	case reflect.Array:
		for i := range v.Len() {
			each(v.Index(i), been, visit)
		}
	}
}

// shared tells whether two stretches of different owners have a byte in common.
func shared(all []stretch) bool {
	slices.SortFunc(all, func(a, b stretch) int { return int(a.begin) - int(b.begin) })
	end, owner := uintptr(0), -1
	for _, s := range all {
		if s.begin < end && s.owner != owner {
			return true
		}
		if s.end > end {
			end, owner = s.end, s.owner
		}
	}
	return false
}

// loan is memory that is handed in: bytes with room behind their end in which something stands, and texts whose bytes can be written over; and how all that was.
type loan struct {
	bytes, were [][]byte
}

func (l *loan) lend(data []byte) []byte {
	b := append(slices.Clone(data), "what stands behind the end"...)
	b = b[:cap(b)]
	l.bytes, l.were = append(l.bytes, b), append(l.were, slices.Clone(b))
	return b[:len(data)]
}

func (l *loan) text(s string) string {
	if s == "" {
		return ""
	}
	return unsafe.String(unsafe.SliceData(l.lend([]byte(s))), len(s))
}

func (l *loan) isAsItWas() bool {
	return slices.EqualFunc(l.bytes, l.were, bytes.Equal)
}

func (l *loan) spoil() {
	for _, b := range l.bytes {
		for i := range b {
			b[i] ^= 0xff
		}
	}
}

// answered is all that a server answers behind a call.
type answered struct {
	written []byte
	sent    []api.Message
	sight   api.Sight
	played  []api.Entry
	shot    api.Shot
	kids    api.Shot
}

// lent makes a call with all that it hands in lent to it.
func (x call) lent(l *loan, n **node.Node, g *again) answered {
	var a answered
	x.message.Bytes = l.text(x.message.Bytes)
	if x.kind == "start" {
		*n, a.written, a.sent, _ = node.Open(g.self, g.rules, l.lend(g.disk[:x.size]))
	} else {
		a.written, a.sent = x.on(n, g)
	}
	a.sight, a.played = (*n).Sight(), (*n).Played()
	a.shot, _ = (*n).Part(l.text("/"), api.WatchSubtree)
	a.kids, _ = (*n).Part(l.text("/a"), api.WatchKids)
	return a
}

// is holds an answer against the second reckoning.
func (a answered) is(t *testing.T, x call, g *again) {
	t.Helper()
	written, sent := x.again(g)
	shot, _ := g.now.Part("/", api.WatchSubtree)
	if !bytes.Equal(a.written, written) || !slices.Equal(a.sent, sent) || !sameSight(a.sight, g.sight()) || !sameEntries(a.played, g.fresh) || !slices.Equal(a.shot.Nodes, shot.Nodes) {
		t.Errorf("P14.9: behind what was written over, %s answers something else", x)
	}
	g.fresh = nil
}

// scribble writes over a list, and over the room behind it.
func scribble[T any](list []T, with T) {
	list = list[:cap(list)]
	for i := range list {
		list[i] = with
	}
}

func (a answered) scribble() {
	scribble(a.written, 0xee)
	scribble(a.sent, api.Message{From: -7})
	scribble(a.sight.Sessions, -7)
	scribble(a.sight.Queued, -7)
	for _, e := range a.played {
		scribble(e.Ops, api.Op{Kind: -7, Place: "/spoilt"})
	}
	scribble(a.played, api.Entry{Stamp: -7, Kind: -7})
	scribble(a.shot.Nodes, api.Seen{Place: "/spoilt"})
	scribble(a.kids.Nodes, api.Seen{Place: "/spoilt"})
}

// along goes through calls of scripts; what a call is to do is left to whoever looks.
func along(t *testing.T, seeds, kind uint64, do func(n **node.Node, g *again, x call)) {
	t.Helper()
	for seed := range seeds {
		c := chanceOf(seed, kind)
		n, g := started(t, 1, c.rules(), nil)
		for range 120 {
			do(&n, g, c.call(g))
			if t.Failed() {
				t.Fatalf("seed %d", seed)
			}
		}
	}
}

// TestNothingIsShared: P14.9, whatever is written over what was handed in, and then over what was answered, the server goes on as if nothing were.
func TestNothingIsShared(t *testing.T) {
	along(t, 60, 149, func(n **node.Node, g *again, x call) {
		var l loan
		a := x.lent(&l, n, g)
		l.spoil()
		a.is(t, x, g)
		a.scribble()
	})
}

// TestHandedInStays: P14.9 and W6, nothing that is handed in is changed, nor the room behind it.
func TestHandedInStays(t *testing.T) {
	along(t, 20, 150, func(n **node.Node, g *again, x call) {
		var l loan
		x.lent(&l, n, g).scribble()
		x.again(g)
		if !l.isAsItWas() {
			t.Errorf("P14.9: %s changes what is handed in", x)
		}
	})
}

// TestAnswersAreNew: P14.9 and W6, no two lists or texts of answers, of what was handed in and of what the server keeps have memory in common, spare room too.
func TestAnswersAreNew(t *testing.T) {
	for seed := range uint64(25) {
		c := chanceOf(seed, 151)
		n, g := started(t, 1, c.rules(), nil)
		var all []stretch
		own := func(v any, together bool) {
			for i, s := range memory(v) {
				s.owner = len(all) + 1
				if together {
					s.owner = len(all) + 1 - i
				}
				all = append(all, s)
			}
		}
		for range 80 {
			var l loan
			x := c.call(g)
			a := x.lent(&l, &n, g)
			x.again(g)
			own(l.bytes, true)
			own(a, false)
		}
		own(n, true)
		if shared(all) {
			t.Fatalf("P14.9: seed %d: answers have memory in common", seed)
		}
	}
}

// TestNoSpareRoom: W6, behind the lists of an answer nothing stands.
func TestNoSpareRoom(t *testing.T) {
	along(t, 20, 152, func(n **node.Node, g *again, x call) {
		var l loan
		a := x.lent(&l, n, g)
		x.again(g)
		isBlank := areBlank(a.written) && areBlank(a.sent) && areBlank(a.sight.Sessions) && areBlank(a.sight.Queued) && areBlank(a.played) && areBlank(a.shot.Nodes)
		for _, e := range a.played {
			isBlank = isBlank && areBlank(e.Ops)
		}
		if !isBlank {
			t.Errorf("W6: something stands behind a list that %s answers", x)
		}
	})
}

// areBlank tells whether nothing stands in the room behind a list.
func areBlank[T any](list []T) bool {
	var zero T
	return !slices.ContainsFunc(list[len(list):cap(list)], func(v T) bool { return !reflect.DeepEqual(v, zero) })
}

// TestLetGo: what a server keeps does not grow with what it has done.
func TestLetGo(t *testing.T) {
	s := heardBy(t, api.Rules{Nodes: 1, Clients: 2, Queue: 2, Ring: 4, Window: 2, Lease: 2}, 1)
	sizes := map[int]int{}
	for request := 1; request <= 300; request++ {
		s.silently(101, calls(1, request, sets("/", "data")))
		s.silently(102, opens(2+api.MaxSlots*request))
		s.silently(102, resumes(2+api.MaxSlots*request, 1, 0))
		s.node.Tick()
		s.node.Played()
		size := 0
		for _, m := range memory(s.node) {
			size += int(m.end - m.begin)
		}
		sizes[request] = size
	}
	if sizes[300] > sizes[20]+64 {
		t.Errorf("what is kept grows from %d to %d bytes", sizes[20], sizes[300])
	}
}
