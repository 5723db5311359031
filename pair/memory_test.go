package pair_test

import (
	"reflect"
	"slices"
	"testing"
	"unsafe"

	"herald/api"
	"herald/pair"
)

// stretch is where something lies in memory; of a list its spare room too.
type stretch struct {
	begin, end uintptr
	held       unsafe.Pointer // as long as a stretch is looked at, nothing else may come to lie there
}

func stretchAt(at unsafe.Pointer, size int) stretch {
	return stretch{uintptr(at), uintptr(at) + uintptr(size), at}
}

// memory has the stretches of all lists and texts of some values, in the room behind lists too; of a core those of all that it keeps.
func memory(values ...any) []stretch {
	var all []stretch
	for _, v := range values {
		all = append(all, memoryOf(reflect.ValueOf(v))...)
	}
	return all
}

func memoryOf(v reflect.Value) []stretch {
	var all []stretch
	switch v.Kind() {
	case reflect.Pointer:
		return memoryOf(v.Elem())
	case reflect.String:
		all = append(all, stretchAt(unsafe.Pointer(unsafe.StringData(v.String())), v.Len()))
	case reflect.Struct:
		for i := range v.NumField() {
			all = append(all, memoryOf(v.Field(i))...)
		}
	case reflect.Slice:
		all = append(all, stretchAt(v.UnsafePointer(), v.Cap()*int(v.Type().Elem().Size())))
		v = v.Slice(0, v.Cap())
		fallthrough
	case reflect.Array:
		for i := range v.Len() {
			all = append(all, memoryOf(v.Index(i))...)
		}
	}
	return slices.DeleteFunc(all, func(s stretch) bool { return s.begin == s.end })
}

// anyMeet tells whether two of the stretches have a byte in common.
func anyMeet(all []stretch) bool {
	slices.SortFunc(all, func(a, b stretch) int { return int(a.begin) - int(b.begin) })
	for i := range max(0, len(all)-1) {
		if all[i].end > all[i+1].begin {
			return true
		}
	}
	return false
}

// loan is memory that is handed in: lists with room behind their ends in which old things stand, and texts whose bytes can be written over.
type loan struct {
	bytes   [][]byte
	ops     [][]api.Op
	entries [][]api.Entry
}

func (l *loan) text(s string) string {
	if s == "" {
		return ""
	}
	b := []byte(s)
	l.bytes = append(l.bytes, b)
	return unsafe.String(unsafe.SliceData(b), len(b))
}

func (l *loan) entry(e api.Entry) api.Entry {
	var ops []api.Op
	for _, op := range append(slices.Clone(e.Ops), api.Op{Kind: 3, Place: "/behind", Data: "the end"}) {
		op.Place, op.Data = l.text(op.Place), l.text(op.Data)
		ops = append(ops, op)
	}
	l.ops = append(l.ops, ops)
	e.Ops = ops[:len(e.Ops)]
	return e
}

func (l *loan) list(entries []api.Entry) []api.Entry {
	var list []api.Entry
	for _, e := range append(slices.Clone(entries), ent(77, 7)) {
		list = append(list, l.entry(e))
	}
	l.entries = append(l.entries, list)
	return list[:len(entries)]
}

// call is a call with all that it hands in lent to it.
func (l *loan) call(x call) call {
	x.entry = l.entry(x.entry)
	x.note.Entries, x.note.State = l.list(x.note.Entries), l.text(x.note.State)
	x.said.Entries, x.said.State = l.list(x.said.Entries), l.text(x.said.State)
	return x
}

// copied is a copy of all that is lent, the room behind the lists too.
func (l *loan) copied() loan {
	var c loan
	for _, b := range l.bytes {
		c.bytes = append(c.bytes, slices.Clone(b))
	}
	for _, ops := range l.ops {
		var own []api.Op
		for _, op := range ops[:cap(ops)] {
			op.Place, op.Data = string([]byte(op.Place)), string([]byte(op.Data))
			own = append(own, op)
		}
		c.ops = append(c.ops, own)
	}
	for _, list := range l.entries {
		c.entries = append(c.entries, slices.Clone(list[:cap(list)]))
	}
	return c
}

// spoil writes over all that was lent.
func (l *loan) spoil() {
	for _, b := range l.bytes {
		for i := range b {
			b[i] ^= 0xff
		}
	}
	for _, ops := range l.ops {
		scribble(ops, api.Op{Kind: -7, Place: "/spoilt", Data: "spoilt"})
	}
	for _, list := range l.entries {
		scribble(list, api.Entry{Stamp: -7, View: -7, Kind: -7})
	}
}

// scribble writes over a list, and over the room behind it.
func scribble[T any](list []T, with T) {
	list = list[:cap(list)]
	for i := range list {
		list[i] = with
	}
}

// scribbleAct writes over all that an act holds.
func scribbleAct(a pair.Act) {
	for _, r := range a.Records {
		scribble(r.Entry.Ops, api.Op{Kind: -7})
	}
	for _, o := range a.Notes {
		for _, e := range o.Note.Entries {
			scribble(e.Ops, api.Op{Kind: -7})
		}
		scribble(o.Note.Entries, api.Entry{Stamp: -7})
	}
	scribble(a.Records, api.Record{Kind: -7})
	scribble(a.Notes, pair.Out{To: -7})
	scribble(a.Want, -7)
}

// along goes through calls of scripts; what a call is to do is left to whoever looks.
func along(t *testing.T, seeds, kind uint64, do func(core **pair.Core, g *again, x call)) {
	t.Helper()
	for seed := range seeds {
		c := chanceOf(seed, kind)
		room := pick(c, 1, 2, 3, 4, 20)
		core, g := started(t, 1+c.IntN(3), room, c.journal(room))
		for range 100 {
			do(&core, g, c.call(g))
			if t.Failed() {
				t.Fatalf("seed %d", seed)
			}
		}
	}
}

// TestNothingIsShared: P13.11, whatever is written over what was handed in, and then over what an act holds, the core goes on as if nothing were.
func TestNothingIsShared(t *testing.T) {
	along(t, 80, 11, func(core **pair.Core, g *again, x call) {
		var l loan
		got, want := l.call(x).on(core, g), x.again(g)
		l.spoil()
		if !got.is(want) {
			t.Errorf("P13.11: what was handed in is in %s, want %s", tell(got), tell(want))
		}
		if look := lookAt(t, *core); !look.is(g.look()) {
			t.Errorf("P13.11: what was handed in to a %s is kept: %s, want %s", x.kind, tell(look), tell(g.look()))
		}
		scribbleAct(got.act)
		if look := lookAt(t, *core); !look.is(g.look()) {
			t.Errorf("P13.11: what an act of a %s holds is kept: %s, want %s", x.kind, tell(look), tell(g.look()))
		}
	})
}

// TestHandedInStays: P13.11 and W6, nothing that is handed in is changed, nor the room behind it.
func TestHandedInStays(t *testing.T) {
	along(t, 50, 111, func(core **pair.Core, g *again, x call) {
		var l loan
		lent := l.call(x)
		want := l.copied()
		scribbleAct(lent.on(core, g).act)
		x.again(g)
		if !reflect.DeepEqual(l.copied(), want) {
			t.Errorf("P13.11: a %s changes what is handed in", x.kind)
		}
	})
}

// TestNoSpareRoom: W6, behind the lists of an act nothing stands.
func TestNoSpareRoom(t *testing.T) {
	along(t, 50, 113, func(core **pair.Core, g *again, x call) {
		act := x.on(core, g).act
		x.again(g)
		isBlank := areBlank(act.Records) && areBlank(act.Notes) && areBlank(act.Want)
		for _, r := range act.Records {
			isBlank = isBlank && areBlank(r.Entry.Ops)
		}
		for _, o := range act.Notes {
			isBlank = isBlank && areBlank(o.Note.Entries)
			for _, e := range o.Note.Entries {
				isBlank = isBlank && areBlank(e.Ops)
			}
		}
		if !isBlank {
			t.Errorf("W6: something stands behind a list of an act of a %s", x.kind)
		}
	})
}

// TestActsAreNew: P13.11 and W6, no two lists or texts of acts, of what was handed in and of what the core keeps have memory in common, spare room too.
func TestActsAreNew(t *testing.T) {
	for seed := range uint64(50) {
		c := chanceOf(seed, 112)
		room := pick(c, 1, 2, 3, 4, 20)
		core, g := started(t, 1+c.IntN(3), room, c.journal(room))
		var all []stretch
		for range 60 {
			x := c.call(g)
			var l loan
			lent := l.call(x)
			act := lent.on(&core, g).act
			x.again(g)
			all = append(all, joined(memory(l))...)
			all = append(all, memory(act, core.Tick())...)
		}
		if anyMeet(append(all, memory(core)...)) {
			t.Fatalf("P13.11: seed %d: acts have memory in common", seed)
		}
	}
}

// joined makes one stretch of those that meet: what is lent may be told more than once.
func joined(all []stretch) []stretch {
	slices.SortFunc(all, func(a, b stretch) int { return int(a.begin) - int(b.begin) })
	var list []stretch
	for _, s := range all {
		if n := len(list); n > 0 && s.begin < list[n-1].end {
			list[n-1].end = max(list[n-1].end, s.end)
			continue
		}
		list = append(list, s)
	}
	return list
}

// areBlank tells whether nothing stands in the room behind a list.
func areBlank[T any](list []T) bool {
	var zero T
	return !slices.ContainsFunc(list[len(list):cap(list)], func(v T) bool { return !reflect.DeepEqual(v, zero) })
}

// TestLogIsTheCores: P13.7, Log is one ring that goes on with the core, until a full transfer puts another one in its place.
func TestLogIsTheCores(t *testing.T) {
	c, _ := states()[3].fresh(t)
	log := c.Log()
	c.Take(2, appends(4, 7, 3, 9, run(7, 4, 4)...))
	if last, _ := log.Last(); last != 9 || c.Log() != log {
		t.Errorf("P13.7: Log is another ring, whose last is %d", last)
	}
	c.Take(2, full(4, 20, 4, "s"))
	if last, of := c.Log().Last(); last != 20 || of != 4 {
		t.Errorf("P13.7: behind a full transfer the last is %d of %d", last, of)
	}
}

// TestLetGo: nothing of what fell out, or had to make place, nor a state is kept.
func TestLetGo(t *testing.T) {
	c, _ := states()[2].fresh(t)
	if len(memory(c)) == 0 {
		t.Fatal("a core with entries keeps nothing")
	}
	c.Take(2, full(4, 20, 4, "state"))
	if got := len(memory(c)); got != 0 {
		t.Errorf("P13.5: behind a full transfer %d lists and texts are kept", got)
	}
	c = made(t, 1, 4, api.Saved{Stamp: 9, State: "state", Commit: 9})
	if got := len(memory(c)); got != 0 {
		t.Errorf("P13.1: at a start %d lists and texts are kept", got)
	}
}
