package state_test

import (
	"fmt"
	"reflect"
	"slices"
	"strings"
	"sync"
	"testing"
	"unsafe"

	"herald/api"
	"herald/state"
)

// stretch is where something lies in memory; of a list its spare room too.
type stretch struct {
	begin, end uintptr
	held       unsafe.Pointer // as long as a stretch is looked at, nothing else may come to lie there
}

func stretchAt(at unsafe.Pointer, size int) stretch {
	return stretch{uintptr(at), uintptr(at) + uintptr(size), at}
}

// memory has the stretches of all lists and texts of some values, and of what machines keep.
func memory(values ...any) []stretch {
	var all []stretch
	for _, v := range values {
		all = append(all, memoryOf(reflect.ValueOf(v))...)
	}
	return all
}

func memoryOf(v reflect.Value) []stretch {
	var all []stretch
	switch v.Kind() {
	case reflect.String:
		// Go itself has one place for all texts of the same one byte.
		if v.Len() > 1 {
			all = append(all, stretchAt(unsafe.Pointer(unsafe.StringData(v.String())), v.Len()))
		}
	case reflect.Pointer:
		if !v.IsNil() {
			all = append(all, memoryOf(v.Elem())...)
		}
	case reflect.Struct:
		for i := range v.NumField() {
			all = append(all, memoryOf(v.Field(i))...)
		}
	case reflect.Map:
		for entries := v.MapRange(); entries.Next(); {
			all = append(all, memoryOf(entries.Value())...)
		}
	case reflect.Slice:
		all = append(all, stretchAt(v.UnsafePointer(), v.Cap()*int(v.Type().Elem().Size())))
		for i := range v.Len() {
			all = append(all, memoryOf(v.Index(i))...)
		}
	}
	return slices.DeleteFunc(all, func(s stretch) bool { return s.begin == s.end })
}

// anyMeet tells whether two of the stretches have a byte in common.
func anyMeet(all []stretch) bool {
	slices.SortFunc(all, func(a, b stretch) int { return int(a.begin) - int(b.begin) })
	for i := range max(0, len(all)-1) {
		if all[i].end > all[i+1].begin {
			return true
		}
	}
	return false
}

// own is an entry with a list and texts of its own, and with room behind the end of its ops in which old ones stand.
func own(e api.Entry) api.Entry {
	var ops []api.Op
	for _, op := range slices.Concat(e.Ops, e.Ops) {
		op.Place, op.Data = strings.Clone(op.Place), strings.Clone(op.Data)
		ops = append(ops, op)
	}
	e.Ops = ops[:len(e.Ops)]
	return e
}

// whole is a list with the room behind its end, copied.
func whole[T any](list []T) []T { return slices.Clone(list[:cap(list)]) }

// asked are all answers of a machine to what does not change it.
func asked(m *state.Machine) []any {
	all := []any{m.Sessions(), m.Freeze()}
	for _, s := range m.Sessions() {
		_, reply, _ := m.Kept(s)
		all = append(all, reply)
	}
	for kind := 1; kind <= 3; kind++ {
		part, _ := m.Part(strings.Clone("/a"), kind)
		all = append(all, part)
	}
	return all
}

// TestAnswersAreNew: P8.10 and W6, no two answers, nor an answer and what was handed in, nor an answer and what a machine keeps, have memory in common, spare room and texts too.
func TestAnswersAreNew(t *testing.T) {
	m := state.New()
	var all []stretch
	for _, e := range append(rich(), ask(15, 2, 1), ask(16, 48, 8), ask(17, 48, 8, lists("/")), shut(18, 48), open(19, 18)) {
		e = own(e)
		reply, changes, code := m.Apply(e)
		if code != api.OK {
			t.Fatalf("P8.1: Apply(%s) says %d", tell(e), code)
		}
		all = append(all, memory(e, reply, changes)...)
		all = append(all, memory(asked(m)...)...)
		text := m.Freeze()
		other := thawed(t, text)
		all = append(all, memory(text)...)
		all = append(all, memory(asked(other)...)...)
		if anyMeet(slices.Concat(all, memory(m))) || anyMeet(slices.Concat(all, memory(other))) || anyMeet(slices.Concat(memory(m), memory(other))) {
			t.Fatalf("P8.10: memory in common behind %s", tell(e))
		}
	}
}

// TestHandedInStays: P8.10, what is handed in is not changed, nor the room behind it, whether it is refused or not.
func TestHandedInStays(t *testing.T) {
	m := state.New()
	for _, e := range rich() {
		for _, e := range []api.Entry{{Stamp: -1, View: 1, Kind: 1, Session: 1, Request: 1, Ops: e.Ops}, e} {
			mine := own(e)
			want := whole(mine.Ops)
			m.Apply(mine)
			if !slices.Equal(whole(mine.Ops), want) {
				t.Errorf("P8.10: %s became %s", tell(want), tell(whole(mine.Ops)))
			}
		}
	}
	if m.Last() != len(rich()) {
		t.Errorf("P8.1: Last is %d", m.Last())
	}
}

// TestKeptStays: P8.10, whatever a caller writes into what he was told or what he handed in, spare room too, the machine is as it was.
func TestKeptStays(t *testing.T) {
	m, other := state.New(), state.New()
	for _, e := range append(rich(), ask(15, 2, 1), ask(16, 48, 8)) {
		want, _, _ := other.Apply(own(e))
		mine := own(e)
		reply, changes, _ := m.Apply(mine)
		if !sameReply(reply, want) {
			t.Errorf("P8.10: Apply(%s) = %s, want %s", tell(e), tell(reply), tell(want))
		}
		scribble(reply)
		clear(changes[:cap(changes)])
		clear(mine.Ops[:cap(mine.Ops)])
		for _, s := range m.Sessions() {
			_, reply, _ := m.Kept(s)
			scribble(reply)
		}
		sessions := m.Sessions()
		clear(sessions[:cap(sessions)])
		part, _ := m.Part("/", api.WatchSubtree)
		clear(part.Nodes[:cap(part.Nodes)])
		if wrong := sameAnswers(m, other); wrong != "" {
			t.Errorf("P8.10: behind %s: %s", tell(e), wrong)
		}
	}
}

// scribble writes over all of a reply's lists.
func scribble(r api.Reply) {
	for _, x := range r.Results {
		for i := range x.Kids[:cap(x.Kids)] {
			x.Kids[:cap(x.Kids)][i] = "scribbled"
		}
	}
	clear(r.Results[:cap(r.Results)])
}

// mutable is a text whose bytes can be turned.
func mutable(text string) ([]byte, string) {
	room := []byte(text)
	return room, unsafe.String(unsafe.SliceData(room), len(room))
}

// TestTextsAreNotKept: P8.10, what a machine keeps does not change with the bytes of a text that was handed in.
func TestTextsAreNotKept(t *testing.T) {
	var rooms [][]byte
	m := state.New()
	for _, e := range rich() {
		e = own(e)
		for i := range e.Ops {
			room, text := mutable(e.Ops[i].Place)
			more, data := mutable(e.Ops[i].Data)
			e.Ops[i].Place, e.Ops[i].Data = text, data
			rooms = append(rooms, room, more)
		}
		m.Apply(e)
		for _, room := range rooms {
			clear(room)
		}
	}
	want := played(t, rich()...)
	if wrong := sameAnswers(m, want); wrong != "" {
		t.Errorf("P8.10: %s", wrong)
	}
	room, text := mutable(want.Freeze())
	n := thawed(t, text)
	clear(room)
	if wrong := sameAnswers(n, want); wrong != "" {
		t.Errorf("P8.10: Thaw: %s", wrong)
	}
	room, text = mutable("/a")
	part, _ := m.Part(text, api.WatchNode)
	clear(room)
	if part.Place != "/a" {
		t.Errorf("P8.10: Part: %q", part.Place)
	}
}

// sizeOf is how many bytes of lists and texts something keeps.
func sizeOf(v any) int {
	size := 0
	for _, s := range memory(v) {
		size += int(s.end - s.begin)
	}
	return size
}

// TestLetGo: of sessions that have ended, and of replies ahead of the last one, nothing is kept.
func TestLetGo(t *testing.T) {
	m := state.New()
	stamp := 0
	play := func(e api.Entry) {
		stamp++
		e.Stamp = stamp
		if reply, _, code := m.Apply(e); code != api.OK || reply.Code != api.OK {
			t.Fatalf("P8.1: %s, %d", tell(reply), code)
		}
	}
	play(open(0, 5))
	play(ask(0, 5, 1, gets("/")))
	want := sizeOf(m)
	for i := range 200 {
		play(ask(0, 5, 2+2*i, lists("/"), gets("/"), gets("/"), gets("/")))
		play(ask(0, 5, 3+2*i, gets("/")))
		play(open(0, 6+16*i))
		play(ask(0, 6+16*i, 1, makes(fmt.Sprintf("/b%d", i), "brief", api.FlagBrief), lists("/")))
		if i%3 > 0 {
			play(shut(0, 6+16*i))
		}
	}
	if got := sizeOf(m); got != want || !slices.Equal(m.Sessions(), []int{5}) {
		t.Errorf("P8.3: %d bytes are kept, want %d; Sessions %v", got, want, m.Sessions())
	}
}

// TestAtOneTime: W2, several goroutines may ask one machine, a zero one too, and thaw one text.
func TestAtOneTime(t *testing.T) {
	for _, m := range []*state.Machine{{}, state.New(), played(t, rich()...)} {
		text := m.Freeze()
		f, _ := scanned(text)
		var all sync.WaitGroup
		for range 4 {
			all.Go(func() {
				for range 20 {
					if wrong := f.answers(m); wrong != "" {
						t.Errorf("W2: %s", wrong)
					}
					thaws(t, "W2", text)
				}
			})
		}
		all.Wait()
	}
}

// TestMachinesAreApart: what one machine plays another one does not see.
func TestMachinesAreApart(t *testing.T) {
	text := played(t, rich()...).Freeze()
	a, b, c, d := thawed(t, text), thawed(t, text), state.New(), state.New()
	for stamp := 15; stamp < 20; stamp++ {
		a.Apply(ask(stamp, 48, stamp, makes("/n", "", api.FlagCounted)))
		a.Apply(open(stamp, stamp))
		c.Apply(open(stamp-14, stamp))
	}
	if b.Freeze() != text || d.Freeze() != state.New().Freeze() || a.Freeze() == text {
		t.Errorf("P8.9: machines are not apart")
	}
}
