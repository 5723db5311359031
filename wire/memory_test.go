package wire_test

import (
	"bytes"
	"runtime"
	"slices"
	"strings"
	"testing"
	"unsafe"

	"herald/api"
	"herald/wire"
)

func heapInUse() int {
	runtime.GC()
	var m runtime.MemStats
	runtime.ReadMemStats(&m)
	return int(m.HeapAlloc)
}

// meet tells whether two lists, with their spare room, have memory in common.
func meet(a, b []byte) bool {
	if cap(a) == 0 || cap(b) == 0 {
		return false
	}
	beginA := uintptr(unsafe.Pointer(unsafe.SliceData(a)))
	beginB := uintptr(unsafe.Pointer(unsafe.SliceData(b)))
	return beginA < beginB+uintptr(cap(b)) && beginB < beginA+uintptr(cap(a))
}

// withRoom is the bytes in a list that has room behind its end, full of 0xAA.
func withRoom(text string) []byte {
	room := append([]byte(text), bytes.Repeat([]byte{0xaa}, 64)...)
	return room[:len(text)]
}

// TestHandedInStays: P2.13 and P2.7, neither what is handed in nor the room behind it is written into.
func TestHandedInStays(t *testing.T) {
	texts := []string{"", "a", "\x80", "\x02ab", "\xff\xff\xff\xff\xff", framed("abc"), spoilt("abc"), framed("abc")[:12], "x" + framed("abc")}
	for _, text := range texts {
		data, other := withRoom(text), withRoom("other")
		before, otherBefore := bytes.Clone(data[:cap(data)]), bytes.Clone(other[:cap(other)])
		pieces := make([][]byte, 2, 5)
		pieces[0], pieces[1] = data, other
		var s wire.Stream
		for range 2 {
			wire.Sum(data)
			wire.ReadNumber(data, 0)
			wire.ReadText(data, 0)
			wire.Unframe(data)
			wire.Frame(pieces...)
			s.Feed(data)
			bodiesOf(&s, all)
		}
		if !bytes.Equal(data[:cap(data)], before) || !bytes.Equal(other[:cap(other)], otherBefore) {
			t.Errorf("P2.13: %x was changed, or the room behind it: %x", text, data[:cap(data)])
		}
		if !bytes.Equal(pieces[0], data) || !bytes.Equal(pieces[1], other) || slices.ContainsFunc(pieces[2:cap(pieces)], func(p []byte) bool { return p != nil }) {
			t.Errorf("P2.13: the list of pieces was changed: %x", pieces)
		}
	}
}

// TestAnswersAreNew: P2.13, P2.5 and P2.8: an answer shares no memory with what was handed in, with another answer, or with a Stream.
func TestAnswersAreNew(t *testing.T) {
	piece := withRoom("some piece of a body")
	frame := withRoom(framed("the body"))
	longest := withRoom(framed(strings.Repeat("l", api.MaxFrame)))
	lists := [][]byte{piece, frame, longest}
	take := func(answer []byte, code api.Errno) {
		if code != api.OK {
			t.Errorf("P2.13: %d", code)
		}
		lists = append(lists, answer)
	}
	var s wire.Stream
	for range 2 {
		take(wire.Number(0))
		take(wire.Number(300))
		take(wire.Text("text"))
		take(wire.Text(""))
		take(wire.Frame(piece))
		take(wire.Frame())
		take(wire.Frame(frame, longest[:100]))
		take(wire.Unframe(frame))
		take(wire.Unframe(longest))
		s.Feed(slices.Concat(frame, frame, longest, frame[:12]))
		for body := range s.Bodies() {
			take(body, api.OK)
		}
		s.Feed(frame[12:])
	}
	for i, a := range lists {
		for _, b := range lists[i+1:] {
			if meet(a, b) {
				t.Errorf("P2.13: %.20x.. and %.20x.. have memory in common", a, b)
			}
		}
	}
}

// TestReadTextIsCopy: P2.5, the text stays when the bytes it was read from are written over.
func TestReadTextIsCopy(t *testing.T) {
	data := []byte("\x05a text")
	text, _, _ := wire.ReadText(data, 0)
	clear(data)
	if text != "a tex" {
		t.Errorf("P2.5: the text became %q", text)
	}
}

// TestFedIsNotKept: P2.13, what was fed may be written over at once.
func TestFedIsNotKept(t *testing.T) {
	line := []byte(joined("x", framed("one"), framed("two")))
	for cut := range line {
		var s wire.Stream
		for _, part := range [][]byte{line[:cut], line[cut:]} {
			piece := bytes.Clone(part)
			s.Feed(piece)
			clear(piece)
		}
		if got := bodiesOf(&s, all); !slices.Equal(got, []string{"one", "two"}) || s.Skipped() != 1 {
			t.Fatalf("P2.13: cut at %d: %q, skipped %d", cut, got, s.Skipped())
		}
	}
}
