package client_test

import (
	"bytes"
	"reflect"
	"slices"
	"strings"
	"testing"
	"unsafe"

	"herald/api"
	"herald/client"
)

// stretch is where something lies in memory; of a list its spare room too.
type stretch struct {
	begin, end uintptr
	owner      int
	held       unsafe.Pointer // as long as a stretch is looked at, nothing else may come to lie there
}

// memory has the stretches of all lists and texts of a value, in the room behind lists too; of a client those of all that it keeps.
func memory(v any) []stretch {
	var all []stretch
	add := func(at unsafe.Pointer, size int) {
		if size > 0 {
			all = append(all, stretch{begin: uintptr(at), end: uintptr(at) + uintptr(size), held: at})
		}
	}
	each(reflect.ValueOf(v), func(v reflect.Value) {
		switch v.Kind() {
		case reflect.String:
			if v.Len() == 1 {
				break // Go itself has one text for each byte
			}
			add(unsafe.Pointer(unsafe.StringData(v.String())), v.Len())
		case reflect.Slice:
			add(v.UnsafePointer(), v.Cap()*int(v.Type().Elem().Size()))
		}
	})
	return all
}

// each goes through a value and all that it leads to, what is inside of it first.
func each(v reflect.Value, visit func(reflect.Value)) {
	switch v.Kind() {
	case reflect.Pointer:
		each(v.Elem(), visit)
	case reflect.Struct:
		for i := range v.NumField() {
			each(v.Field(i), visit)
		}
	case reflect.Slice:
		whole := v.Slice(0, v.Cap())
		for i := range whole.Len() {
			each(whole.Index(i), visit)
		}
	}
	visit(v)
}

// shared tells whether two stretches of different owners have a byte in common.
func shared(all []stretch) bool {
	slices.SortFunc(all, func(a, b stretch) int { return int(a.begin) - int(b.begin) })
	end, owner := uintptr(0), -1
	for _, s := range all {
		if s.begin < end && s.owner != owner {
			return true
		}
		if s.end > end {
			end, owner = s.end, s.owner
		}
	}
	return false
}

// loan is memory that is handed in: texts whose bytes can be written over, lists with room behind their end in which something stands; and how all that was.
type loan struct {
	bytes, were  [][]byte
	ops, opsWere []api.Op
}

func (l *loan) text(s string) string {
	if s == "" {
		return ""
	}
	b := append([]byte(s), "what stands behind the end"...)
	l.bytes, l.were = append(l.bytes, b), append(l.were, slices.Clone(b))
	return unsafe.String(unsafe.SliceData(b), len(s))
}

func (l *loan) list(ops []api.Op) []api.Op {
	for _, o := range ops {
		o.Place, o.Data = l.text(o.Place), l.text(o.Data)
		l.ops = append(l.ops, o)
	}
	l.ops = append(l.ops, api.Op{Kind: 7, Version: 7, Flags: 7})
	l.ops = l.ops[:cap(l.ops)]
	l.opsWere = slices.Clone(l.ops)
	return l.ops[:len(ops)]
}

func (l *loan) isAsItWas() bool {
	return slices.EqualFunc(l.bytes, l.were, bytes.Equal) && slices.Equal(l.ops, l.opsWere)
}

func (l *loan) spoil() {
	for _, b := range l.bytes {
		for i := range b {
			b[i] ^= 0xff
		}
	}
	for i := range l.ops {
		l.ops[i] = api.Op{Kind: -7, Place: "/spoilt"}
	}
}

// lent is the call with all that it hands in lent to it.
func (x call) lent(l *loan) call {
	x.ops, x.place, x.message.Bytes = l.list(x.ops), l.text(x.place), l.text(x.message.Bytes)
	return x
}

// seenBy is all that a client answers at a call.
type seenBy struct {
	Told  []api.Told
	Sent  []api.Message
	Parts []api.Part
}

func (x call) seen(c *client.Client) (seenBy, api.Errno) {
	a := x.on(c)
	return seenBy{a.told, a.sent, c.Pictures()}, a.code
}

// scribble writes over all lists of a value, and over the room behind them.
func scribble(v any) {
	each(reflect.ValueOf(v), func(v reflect.Value) {
		if v.Kind() != reflect.Slice {
			return
		}
		whole, wrong := v.Slice(0, v.Cap()), garbage(v.Type().Elem())
		for i := range whole.Len() {
			whole.Index(i).Set(wrong)
		}
	})
}

// garbage is a value that nobody would answer.
func garbage(of reflect.Type) reflect.Value {
	v := reflect.New(of).Elem()
	switch of.Kind() {
	case reflect.Int:
		v.SetInt(-7)
	case reflect.String:
		v.SetString("/spoilt")
	case reflect.Struct:
		for i := range v.NumField() {
			v.Field(i).Set(garbage(of.Field(i).Type))
		}
	}
	return v
}

// along goes through calls of scripts by chance; what is done with a call is left to whoever looks.
func along(t *testing.T, seeds, kind uint64, do func(c *client.Client, g *again, x call)) {
	t.Helper()
	for seed := range seeds {
		c := chanceOf(seed, kind)
		made, _ := client.New(2, 3)
		g := startAgain(2, 3)
		for range 200 {
			do(made, g, c.call(g))
			if t.Failed() {
				t.Fatalf("seed %d", seed)
			}
		}
	}
}

// TestNothingIsShared: P15.11, whatever is written over what was handed in, and then over what was answered, the client goes on as if nothing were.
func TestNothingIsShared(t *testing.T) {
	along(t, 100, 151, func(c *client.Client, g *again, x call) {
		var l loan
		a, code := x.lent(&l).seen(c)
		l.spoil()
		want := x.again(g)
		if !want.is(answer{a.Told, a.Sent, code}) || !same(a.Parts, g.parts()) {
			t.Errorf("P15.11: behind what was written over, %s answers something else", x)
		}
		scribble(a)
	})
}

// TestHandedInStays: P15.11 and W6, nothing that is handed in is changed, nor the room behind it.
func TestHandedInStays(t *testing.T) {
	along(t, 50, 152, func(c *client.Client, g *again, x call) {
		var l loan
		a, _ := x.lent(&l).seen(c)
		x.again(g)
		scribble(a)
		if !l.isAsItWas() {
			t.Errorf("P15.11: %s changes what is handed in", x)
		}
	})
}

// TestAnswersAreNew: P15.11 and W6, no two lists or texts of answers, of what was handed in and of what the client keeps have memory in common, spare room too.
func TestAnswersAreNew(t *testing.T) {
	for seed := range uint64(60) {
		c := chanceOf(seed, 153)
		made, _ := client.New(2, 3)
		g := startAgain(2, 3)
		var all []stretch
		own := func(v any, isOne bool) {
			first := len(all) + 1
			for _, s := range memory(v) {
				s.owner = len(all) + 1
				if isOne {
					s.owner = first
				}
				all = append(all, s)
			}
		}
		for range 150 {
			var l loan
			x := c.call(g)
			a, _ := x.lent(&l).seen(made)
			x.again(g)
			own(l, true)
			own(a, false)
		}
		own(made, false)
		if shared(all) {
			t.Fatalf("P15.11: seed %d: answers have memory in common", seed)
		}
	}
}

// TestNoSpareRoom: W6, behind the lists of an answer nothing stands.
func TestNoSpareRoom(t *testing.T) {
	along(t, 50, 154, func(c *client.Client, g *again, x call) {
		a, _ := x.seen(c)
		x.again(g)
		each(reflect.ValueOf(a), func(v reflect.Value) {
			if v.Kind() != reflect.Slice {
				return
			}
			for i := v.Len(); i < v.Cap(); i++ {
				if !v.Slice(0, v.Cap()).Index(i).IsZero() {
					t.Errorf("W6: something stands behind a list that %s answers", x)
				}
			}
		})
	})
}

// TestLetGo: what a client keeps does not grow with what it has done, and of a session that is over nothing is left.
func TestLetGo(t *testing.T) {
	l := born(t, 2, 3)
	size := func() int {
		all := 0
		for _, s := range memory(l.c) {
			all += int(s.end - s.begin)
		}
		return all
	}
	fresh := size()
	for round := range 40 {
		session := 2 + 16*round
		l.c.Begin()
		l.take(1, opened(1, session, api.OK))
		l.c.Watch("/a", api.WatchSubtree)
		id := round*2 + 1
		nodes := []api.Seen{seen("/a", strings.Repeat("d", 60), 1), seen("/a/b", strings.Repeat("d", 60), 1)}
		l.take(1, watched(1, session, l.conn(), part(id, 4, "/a", api.WatchSubtree, nodes...)))
		l.c.Watch("/b", api.WatchNode)
		l.c.Do(sets("/a", strings.Repeat("d", 200)))
		full := size()
		l.take(1, answers(1, session, 1, api.Reply{}))
		if size() > full-200 {
			t.Errorf("the ops of a request that was answered are kept")
		}
		full = size()
		l.c.Unwatch(id)
		if size() > full-120 {
			t.Errorf("the picture of a watch that is leaving is kept")
		}
		full = size()
		l.take(1, refused(1, session, l.conn(), id+1, api.ErrFull))
		l.take(1, unwatched(1, session, l.conn(), id))
		if size() > full-2 {
			t.Errorf("a watch that is gone is kept")
		}
		if round%2 == 0 {
			l.c.End()
			if size() != fresh {
				t.Errorf("behind End something of the session is kept")
			}
		}
		l.take(1, gone(1, session))
		if size() != fresh {
			t.Fatalf("what is kept grows from %d to %d bytes", fresh, size())
		}
	}
}
