package wire_test

import (
	"bytes"
	"encoding/binary"
	"math"
	"strings"
	"testing"

	"herald/api"
	"herald/wire"
)

// numbersAtEdges are the numbers about each length of a number on bytes, and the two ends.
func numbersAtEdges() []int {
	numbers := []int{0, 1, 2, 300, api.MaxFrame - 1, api.MaxFrame, api.MaxFrame + 1, api.MaxNumber - 1, api.MaxNumber}
	for bits := 7; bits <= 28; bits += 7 {
		numbers = append(numbers, 1<<bits-1, 1<<bits, 1<<bits+1)
	}
	return numbers
}

// bytesOf is every list of at most that many of the bytes.
func bytesOf(most int, letters ...byte) [][]byte {
	all := [][]byte{{}}
	for begin, round := 0, 0; round < most; round++ {
		end := len(all)
		for _, list := range all[begin:end] {
			for _, b := range letters {
				all = append(all, append(bytes.Clone(list), b))
			}
		}
		begin = end
	}
	return all
}

// TestNumber: P2.2, the examples, the edges and what is no number.
func TestNumber(t *testing.T) {
	for _, c := range []struct {
		v    int
		want string
	}{
		{0, "\x00"},
		{1, "\x01"},
		{127, "\x7f"},
		{128, "\x80\x01"},
		{255, "\xff\x01"},
		{300, "\xac\x02"},
		{16383, "\xff\x7f"},
		{16384, "\x80\x80\x01"},
		{2097151, "\xff\xff\x7f"},
		{2097152, "\x80\x80\x80\x01"},
		{268435455, "\xff\xff\xff\x7f"},
		{268435456, "\x80\x80\x80\x80\x01"},
		{api.MaxNumber - 1, "\xfe\xff\xff\xff\x07"},
		{api.MaxNumber, "\xff\xff\xff\xff\x07"},
	} {
		if got, code := wire.Number(c.v); string(got) != c.want || code != api.OK {
			t.Errorf("P2.2: Number(%d) = %x, %d, want %x", c.v, got, code, c.want)
		}
	}
	for _, v := range []int{-1, -2, -128, math.MinInt32, math.MinInt, api.MaxNumber + 1, 1 << 32, 1<<32 + 5, math.MaxInt} {
		if got, code := wire.Number(v); len(got) != 0 || code != api.ErrNumber {
			t.Errorf("P2.2: Number(%d) = %x, %d, want ErrNumber", v, got, code)
		}
	}
}

// TestNumberAgainstVarint: P2.2, held against the library's writing of numbers.
func TestNumberAgainstVarint(t *testing.T) {
	numbers := numbersAtEdges()
	for v := 0; v < 70000; v++ {
		numbers = append(numbers, v)
	}
	for v := 1; v < api.MaxNumber; v += 99991 {
		numbers = append(numbers, v)
	}
	for _, v := range numbers {
		if got, code := wire.Number(v); !bytes.Equal(got, binary.AppendUvarint(nil, uint64(v))) || code != api.OK {
			t.Fatalf("P2.2: Number(%d) = %x, %d", v, got, code)
		}
	}
}

// TestReadNumber: P2.3, the examples, the edges and the wrong inputs in their order.
func TestReadNumber(t *testing.T) {
	for _, c := range []struct {
		data string
		at   int
		v    int
		next int
		code api.Errno
	}{
		{"\x00", 0, 0, 1, api.OK},
		{"\x7f", 0, 127, 1, api.OK},
		{"\x80\x01\x99", 0, 128, 2, api.OK},
		{"\x80\x01\x99", 1, 1, 2, api.OK},
		{"\x80\x01\x80", 0, 128, 2, api.OK},
		{"\x00\x80\x80\x80\x80\x80", 0, 0, 1, api.OK},
		{"\x80\x80\x80\x80\x01", 0, 1 << 28, 5, api.OK},
		{"\xff\xff\xff\xff\x07", 0, api.MaxNumber, 5, api.OK},
		{"\x80\x80\xff\xff\xff\xff\x07\x00", 2, api.MaxNumber, 7, api.OK},

		{"", -1, 0, 0, api.ErrArg},
		{"", 1, 0, 0, api.ErrArg},
		{"\x00", -1, 0, 0, api.ErrArg},
		{"\x00", 2, 0, 0, api.ErrArg},
		{"\xff\xff\xff\xff\xff", 6, 0, 0, api.ErrArg},
		{"\x00", math.MaxInt, 0, 0, api.ErrArg},
		{"\x00", math.MinInt, 0, 0, api.ErrArg},

		{"", 0, 0, 0, api.ErrShort},
		{"\x00", 1, 0, 0, api.ErrShort},
		{"\x80", 0, 0, 0, api.ErrShort},
		{"\x01\x80", 1, 0, 0, api.ErrShort},
		{"\xff\xff\xff\xff", 0, 0, 0, api.ErrShort},
		{"\xff\xff\xff\xff\xff", 1, 0, 0, api.ErrShort},
		{"\xff\xff\xff\xff\xff", 5, 0, 0, api.ErrShort},

		{"\xff\xff\xff\xff\xff", 0, 0, 0, api.ErrVar},
		{"\x80\x80\x80\x80\x80", 0, 0, 0, api.ErrVar},
		{"\x80\x80\x80\x80\x80\x01", 0, 0, 0, api.ErrVar},
		{"\x80\x80\x80\x80\x80\x00", 0, 0, 0, api.ErrVar},
		{"\x80\x00", 0, 0, 0, api.ErrVar},
		{"\xff\x00", 0, 0, 0, api.ErrVar},
		{"\xff\x80\x00", 0, 0, 0, api.ErrVar},
		{"\x80\x80\x80\x80\x00", 0, 0, 0, api.ErrVar},
		{"\xff\xff\xff\xff\x08", 0, 0, 0, api.ErrVar},
		{"\x80\x80\x80\x80\x08", 0, 0, 0, api.ErrVar},
		{"\x80\x80\x80\x80\x10", 0, 0, 0, api.ErrVar},
		{"\x80\x80\x80\x80\x7f", 0, 0, 0, api.ErrVar},
	} {
		if v, next, code := wire.ReadNumber([]byte(c.data), c.at); v != c.v || next != c.next || code != c.code {
			t.Errorf("P2.3: ReadNumber(%x, %d) = %d, %d, %d, want %d, %d, %d", c.data, c.at, v, next, code, c.v, c.next, c.code)
		}
	}
	if v, next, code := wire.ReadNumber(nil, 0); v != 0 || next != 0 || code != api.ErrShort {
		t.Errorf("P2.3: ReadNumber(nil, 0) = %d, %d, %d, want ErrShort", v, next, code)
	}
}

// readNumberAgain is ReadNumber by the words of the document: it looks for the end first, and holds the form against the library's.
func readNumberAgain(data []byte, at int) (int, int, api.Errno) {
	if at < 0 || at > len(data) {
		return 0, 0, api.ErrArg
	}
	last := bytes.IndexFunc(data[at:], func(r rune) bool { return r < 128 })
	if high := len(data[at:]); last < 0 && high < 5 {
		return 0, 0, api.ErrShort
	}
	if last < 0 || last >= 5 {
		return 0, 0, api.ErrVar
	}
	form := data[at : at+last+1]
	v, _ := binary.Uvarint(form)
	if v > api.MaxNumber || !bytes.Equal(binary.AppendUvarint(nil, v), form) {
		return 0, 0, api.ErrVar
	}
	return int(v), at + last + 1, api.OK
}

// TestReadNumberAgain: P2.3, and of P2.6 that what is read is just what Number writes, on every short list of bytes.
func TestReadNumberAgain(t *testing.T) {
	lists := bytesOf(7, 0x00, 0x01, 0x80, 0xff)
	lists = append(lists, bytesOf(4, 0x00, 0x07, 0x08, 0x7f, 0x80, 0x81, 0xc5, 0xfe)...)
	for _, head := range []string{"\x80\x80\x80\x80", "\xff\xff\xff\xff", "\x80\x80\x80", "\x80"} {
		for b := range 256 {
			lists = append(lists, []byte(head+string([]byte{byte(b)})))
		}
	}
	for _, data := range lists {
		for at := -1; at <= len(data)+1; at++ {
			v, next, code := wire.ReadNumber(data, at)
			if wantV, wantNext, want := readNumberAgain(data, at); v != wantV || next != wantNext || code != want {
				t.Fatalf("P2.3: ReadNumber(%x, %d) = %d, %d, %d, want %d, %d, %d", data, at, v, next, code, wantV, wantNext, want)
			}
			if code != api.OK {
				continue
			}
			if back, _ := wire.Number(v); !bytes.Equal(back, data[at:next]) {
				t.Fatalf("P2.6: ReadNumber(%x, %d) = %d, but Number writes %x of that", data, at, v, back)
			}
		}
	}
}

// TestNumberThereAndBack: P2.6, with any bytes ahead and behind.
func TestNumberThereAndBack(t *testing.T) {
	numbers := numbersAtEdges()
	for v := 3; v < api.MaxNumber; v += 999983 {
		numbers = append(numbers, v)
	}
	for _, v := range numbers {
		form, _ := wire.Number(v)
		for _, ahead := range []string{"", "\x00", "\x80", "\xff\xff\xff\xff\xff\xff"} {
			for _, behind := range []string{"", "\x00", "\x80", "\xff\xff\xff\xff\xff\xff"} {
				data := []byte(ahead + string(form) + behind)
				got, next, code := wire.ReadNumber(data, len(ahead))
				if got != v || next != len(ahead)+len(form) || code != api.OK {
					t.Fatalf("P2.6: ReadNumber(%x, %d) = %d, %d, %d, want %d", data, len(ahead), got, next, code, v)
				}
			}
		}
		for cut := range form {
			if got, next, code := wire.ReadNumber(form[:cut], 0); got != 0 || next != 0 || code != api.ErrShort {
				t.Fatalf("P2.3: ReadNumber of %x, cut to %d bytes = %d, %d, %d", form, cut, got, next, code)
			}
		}
	}
}

// TestText: P2.4, with any bytes, and the lengths about the longest.
func TestText(t *testing.T) {
	for _, c := range []struct{ text, want string }{
		{"", "\x00"},
		{"ab", "\x02ab"},
		{"\x00\xff\xc5\x3a", "\x04\x00\xff\xc5\x3a"},
		{strings.Repeat("x", 127), "\x7f" + strings.Repeat("x", 127)},
		{strings.Repeat("x", 128), "\x80\x01" + strings.Repeat("x", 128)},
		{strings.Repeat("x", api.MaxFrame-1), "\xff\xff\x0f" + strings.Repeat("x", api.MaxFrame-1)},
		{strings.Repeat("x", api.MaxFrame), "\x80\x80\x10" + strings.Repeat("x", api.MaxFrame)},
	} {
		if got, code := wire.Text(c.text); string(got) != c.want || code != api.OK {
			t.Errorf("P2.4: Text of %d bytes = %.20x.. (%d bytes), %d", len(c.text), got, len(got), code)
		}
	}
	for _, n := range []int{api.MaxFrame + 1, api.MaxFrame + 2, 2 * api.MaxFrame} {
		if got, code := wire.Text(strings.Repeat("x", n)); len(got) != 0 || code != api.ErrLong {
			t.Errorf("P2.4: Text of %d bytes = %d bytes, %d, want ErrLong", n, len(got), code)
		}
	}
}

// TestReadText: P2.5, the examples, the edges and the wrong inputs in their order.
func TestReadText(t *testing.T) {
	longest := strings.Repeat("y", api.MaxFrame)
	for _, c := range []struct {
		data string
		at   int
		text string
		next int
		code api.Errno
	}{
		{"\x00", 0, "", 1, api.OK},
		{"\x02ab", 0, "ab", 3, api.OK},
		{"\x02abc", 0, "ab", 3, api.OK},
		{"x\x02abc", 1, "ab", 4, api.OK},
		{"\x01\xff", 0, "\xff", 2, api.OK},
		{"\x80\x80\x10" + longest, 0, longest, api.MaxFrame + 3, api.OK},
		{"\x80\x80\x10" + longest + "z", 0, longest, api.MaxFrame + 3, api.OK},

		{"", -1, "", 0, api.ErrArg},
		{"", 1, "", 0, api.ErrArg},
		{"\x00", math.MaxInt, "", 0, api.ErrArg},
		{"", 0, "", 0, api.ErrShort},
		{"\x80", 0, "", 0, api.ErrShort},
		{"\x80\x00", 0, "", 0, api.ErrVar},
		{"\x81\x00a", 0, "", 0, api.ErrVar},
		{"\xff\xff\xff\xff\x08", 0, "", 0, api.ErrVar},
		{"\x81\x80\x10", 0, "", 0, api.ErrLong},
		{"\x81\x80\x10" + longest + "y", 0, "", 0, api.ErrLong},
		{"\xff\xff\xff\xff\x07", 0, "", 0, api.ErrLong},
		{"\x01", 0, "", 0, api.ErrShort},
		{"\x02a", 0, "", 0, api.ErrShort},
		{"\x80\x80\x10", 0, "", 0, api.ErrShort},
		{"\x80\x80\x10" + longest[1:], 0, "", 0, api.ErrShort},
	} {
		if text, next, code := wire.ReadText([]byte(c.data), c.at); text != c.text || next != c.next || code != c.code {
			t.Errorf("P2.5: ReadText(%.20x.., %d) = %.20q.., %d, %d, want %.20q.., %d, %d", c.data, c.at, text, next, code, c.text, c.next, c.code)
		}
	}
	if text, next, code := wire.ReadText(nil, 0); text != "" || next != 0 || code != api.ErrShort {
		t.Errorf("P2.5: ReadText(nil, 0) = %q, %d, %d, want ErrShort", text, next, code)
	}
}

// TestTextThereAndBack: P2.6, with any bytes ahead and behind; and P2.5, cut anywhere.
func TestTextThereAndBack(t *testing.T) {
	for _, n := range []int{0, 1, 2, 126, 127, 128, 129, 16383, 16384, api.MaxFrame - 1, api.MaxFrame} {
		text := strings.Repeat("\x80t", n)[:n]
		form, _ := wire.Text(text)
		for _, ahead := range []string{"", "\x00", "\xff\xff"} {
			for _, behind := range []string{"", "\x00", "\xff\xff"} {
				data := []byte(ahead + string(form) + behind)
				got, next, code := wire.ReadText(data, len(ahead))
				if got != text || next != len(ahead)+len(form) || code != api.OK {
					t.Fatalf("P2.6: ReadText of a text of %d bytes, %x ahead, %x behind: %d bytes, %d, %d", n, ahead, behind, len(got), next, code)
				}
			}
		}
		for _, cut := range []int{0, 1, 2, len(form) / 2, len(form) - 1} {
			if got, next, code := wire.ReadText(form[:min(cut, len(form)-1)], 0); got != "" || next != 0 || code != api.ErrShort {
				t.Fatalf("P2.5: ReadText of a text of %d bytes, cut to %d = %q, %d, %d", n, cut, got, next, code)
			}
		}
	}
}

// TestReadTextIsWritten: P2.6, the bytes that ReadText reads are just those that Text writes, on every short list of bytes.
func TestReadTextIsWritten(t *testing.T) {
	for _, data := range bytesOf(6, 0x00, 0x01, 0x02, 0x80, 0xff) {
		for at := range data {
			text, next, code := wire.ReadText(data, at)
			n, begin, numberCode := wire.ReadNumber(data, at)
			switch {
			case numberCode != api.OK:
				if code != numberCode {
					t.Fatalf("P2.5: ReadText(%x, %d): %d, but ReadNumber: %d", data, at, code, numberCode)
				}
			case n > api.MaxFrame:
				if code != api.ErrLong {
					t.Fatalf("P2.5: ReadText(%x, %d): %d, want ErrLong", data, at, code)
				}
			case begin+n > len(data):
				if code != api.ErrShort {
					t.Fatalf("P2.5: ReadText(%x, %d): %d, want ErrShort", data, at, code)
				}
			default:
				back, _ := wire.Text(text)
				if code != api.OK || next != begin+n || !bytes.Equal(back, data[at:next]) {
					t.Fatalf("P2.6: ReadText(%x, %d) = %q, %d, %d, but Text writes %x of that", data, at, text, next, code, back)
				}
			}
		}
	}
}
