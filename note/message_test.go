package note_test

import (
	"math"
	"slices"
	"strings"
	"testing"

	"herald/api"
	"herald/note"
	"herald/wire"
)

var ask = api.Note{Kind: api.NoteAsk}

func messageOf(t *testing.T, n api.Note) api.Message {
	t.Helper()
	m, code := note.Message(101, 1, n)
	if code != api.OK {
		t.Fatalf("P3.6: Message = %d: %.300v", code, n)
	}
	return m
}

// TestAddresses: P3.6, the service, five nodes and six clients, and nobody else.
func TestAddresses(t *testing.T) {
	addresses := []int{0, 1, 2, 3, 4, 5, 101, 102, 103, 104, 105, 106}
	bytes := messageOf(t, ask).Bytes
	tried := append(times(320, func(i int) int { return i - 110 }), math.MinInt, math.MaxInt, most, 1<<32, 1<<32+101)
	for _, a := range tried {
		want := api.ErrArg
		if slices.Contains(addresses, a) {
			want = api.OK
		}
		for _, pair := range [][2]int{{a, 0}, {0, a}, {a, 106}, {5, a}, {a, a}} {
			m, code := note.Message(pair[0], pair[1], ask)
			whole := api.Message{From: pair[0], To: pair[1], Bytes: bytes}
			if code != want || code == api.OK && m != whole || code != api.OK && m != (api.Message{}) {
				t.Errorf("P3.6: Message(%d, %d) = %v, %d, want %d", pair[0], pair[1], m, code, want)
			}
			n, code := note.Open(whole)
			if code != want || code == api.OK && !same(n, ask) || code != api.OK && !same(n, api.Note{}) {
				t.Errorf("P3.6: Open(%d, %d) = %v, %d, want %d", pair[0], pair[1], n, code, want)
			}
		}
	}
}

// TestMessageOrder: P3.6, a wrong address comes ahead of a wrong note, and of wrong bytes.
func TestMessageOrder(t *testing.T) {
	for _, c := range []struct {
		from, to int
		n        api.Note
		want     api.Errno
	}{
		{0, 6, ask, api.ErrArg}, {100, 0, ask, api.ErrArg}, {101, 0, ask, api.OK},
		{0, 6, api.Note{}, api.ErrArg}, {-1, 0, api.Note{}, api.ErrArg}, {0, 5, api.Note{}, api.ErrNote}, {106, 5, api.Note{Kind: api.NoteOpen}, api.ErrNote},
	} {
		m, code := note.Message(c.from, c.to, c.n)
		if code != c.want || code != api.OK && m != (api.Message{}) {
			t.Errorf("P3.6: Message(%d, %d, %v) = %v, %d, want %d", c.from, c.to, c.n, m, code, c.want)
		}
	}
	whole := messageOf(t, ask).Bytes
	empty, _ := wire.Frame()
	more, _ := wire.Frame([]byte{api.NoteAsk, 0})
	longest, _ := wire.Frame(make([]byte, api.MaxFrame))
	for what, c := range map[string]struct {
		m    api.Message
		want api.Errno
	}{
		"no bytes, wrong address":   {api.Message{From: 6}, api.ErrArg},
		"no bytes, wrong addressee": {api.Message{To: 107}, api.ErrArg},
		"no bytes":                  {api.Message{}, api.ErrShort},
		"9 bytes":                   {api.Message{Bytes: whole[:9]}, api.ErrShort},
		"a byte too few":            {api.Message{Bytes: whole[:len(whole)-1]}, api.ErrShort},
		"a byte too many":           {api.Message{Bytes: whole + "\x00"}, api.ErrFrame},
		"two frames":                {api.Message{Bytes: whole + whole}, api.ErrFrame},
		"no frame":                  {api.Message{Bytes: strings.Repeat("x", 20)}, api.ErrFrame},
		"very many bytes":           {api.Message{Bytes: strings.Repeat("x", 1<<22)}, api.ErrFrame},
		"a frame around nothing":    {api.Message{Bytes: string(empty)}, api.ErrNote},
		"a frame around more":       {api.Message{Bytes: string(more)}, api.ErrNote},
		"the longest frame":         {api.Message{Bytes: string(longest)}, api.ErrNote},
	} {
		if n, code := note.Open(c.m); code != c.want || !same(n, api.Note{}) {
			t.Errorf("P3.6: %s: %v, %d, want %d", what, n, code, c.want)
		}
	}
}

// TestMessageBytes: P3.6, a message is the frame around the note's bytes, and opens as the note.
func TestMessageBytes(t *testing.T) {
	for _, n := range samples() {
		m := messageOf(t, n)
		frame, _ := wire.Frame(bytesAgain(n))
		if m != (api.Message{From: 101, To: 1, Bytes: string(frame)}) {
			t.Errorf("P3.6: From %d, To %d, %.100x, want %.100x", m.From, m.To, m.Bytes, frame)
		}
		if got, code := note.Open(m); code != api.OK || !same(got, n) {
			t.Errorf("P3.6: %.300v is opened as %.300v, %d", n, got, code)
		}
	}
}

// TestTurnedMessage: P3.11, a message of which one byte is turned, into any other, is not opened.
func TestTurnedMessage(t *testing.T) {
	for _, n := range slices.Concat(plain(), varied()) {
		m := messageOf(t, n)
		data := []byte(m.Bytes)
		for i, old := range data {
			for b := range 256 {
				if byte(b) == old {
					continue
				}
				data[i] = byte(b)
				m.Bytes = string(data)
				if n, code := note.Open(m); code != api.ErrFrame || !same(n, api.Note{}) {
					t.Errorf("P3.11: byte %d as %02x: %v, %d", i, b, n, code)
				}
			}
			data[i] = old
		}
	}
	for _, n := range greatest() {
		m := messageOf(t, n)
		data := []byte(m.Bytes)
		for i := 0; i < len(data); i += 1 + len(data)/20 {
			data[i] ^= 0x40
			m.Bytes = string(data)
			if got, code := note.Open(m); code == api.OK || !same(got, api.Note{}) {
				t.Errorf("P3.11: kind %d, byte %d turned: %d", n.Kind, i, code)
			}
			data[i] ^= 0x40
		}
	}
}
