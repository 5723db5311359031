package wire_test

import (
	"bytes"
	"encoding/binary"
	"hash/crc32"
	"math/rand"
	"slices"
	"strings"
	"testing"

	"herald/api"
	"herald/wire"
)

// frameAgain is Frame by the library's means.
func frameAgain(body string) []byte {
	f := binary.BigEndian.AppendUint32([]byte{0xc5, 0x3a}, uint32(len(body)))
	f = binary.BigEndian.AppendUint32(f, crc32.ChecksumIEEE(f))
	f = append(f, body...)
	return binary.BigEndian.AppendUint32(f, crc32.ChecksumIEEE(f))
}

// headOf is a right head that says a length, whatever length that is.
func headOf(n uint32) []byte {
	f := binary.BigEndian.AppendUint32([]byte{0xc5, 0x3a}, n)
	return binary.BigEndian.AppendUint32(f, crc32.ChecksumIEEE(f))
}

// someBodies are bodies of several lengths and bytes, marks and whole frames among them.
func someBodies() []string {
	return []string{
		"", "a", "\x00", "\xc5", "\xc5\x3a", "abc", "\xff\xff\xff\xff",
		strings.Repeat("\xc5\x3a", 9), string(frameAgain("in")), string(frameAgain("")) + "\xc5",
		strings.Repeat("q", 255), strings.Repeat("q", 256), strings.Repeat("\x00", 65536),
	}
}

// sumAgain is the check sum bit by bit, in the document's words.
func sumAgain(data []byte) int {
	register := uint32(0xFFFFFFFF)
	for _, b := range data {
		register ^= uint32(b)
		for range 8 {
			out := register & 1
			register >>= 1
			if out == 1 {
				register ^= 0xEDB88320
			}
		}
	}
	return int(^register)
}

// TestSum: P2.1, the examples, each single byte, and lists of many lengths.
func TestSum(t *testing.T) {
	for text, want := range map[string]int{"": 0, "a": 3904355907, "\x00": 3523407757, "123456789": 3421780262, "\xff\xff\xff\xff": 4294967295} {
		if got := wire.Sum([]byte(text)); got != want {
			t.Errorf("P2.1: Sum(%q) = %d, want %d", text, got, want)
		}
	}
	if got := wire.Sum(nil); got != 0 {
		t.Errorf("P2.1: Sum(nil) = %d", got)
	}
	lists := bytesOf(3, 0x00, 0x01, 0x10, 0x80, 0xc5, 0xff)
	for b := range 256 {
		lists = append(lists, []byte{byte(b)}, []byte{0, byte(b)}, []byte{byte(b), 0xff})
	}
	chance := rand.New(rand.NewSource(1))
	for _, n := range []int{9, 100, 4095, 4096, 70000, 2*api.MaxFrame + 1} {
		list := make([]byte, n)
		chance.Read(list)
		lists = append(lists, list)
	}
	for _, list := range lists {
		if got, want := wire.Sum(list), sumAgain(list); got != want || got != int(crc32.ChecksumIEEE(list)) {
			t.Fatalf("P2.1: Sum of %.20x.. (%d bytes) = %d, want %d", list, len(list), got, want)
		}
	}
}

// TestFrame: P2.7, each byte of a frame, however its body is cut into pieces.
func TestFrame(t *testing.T) {
	if got, code := wire.Frame(); !bytes.Equal(got, frameAgain("")) || len(got) != 14 || code != api.OK {
		t.Errorf("P2.7: Frame() = %x, %d", got, code)
	}
	for _, body := range someBodies() {
		want := frameAgain(body)
		half := len(body) / 2
		whole, first, second := []byte(body), []byte(body[:half]), []byte(body[half:])
		for _, pieces := range [][][]byte{{whole}, {first, second}, {nil, whole, {}}, {first, nil, second, {}}, slices.Collect(slices.Chunk(whole, 7))} {
			got, code := wire.Frame(pieces...)
			if !bytes.Equal(got, want) || code != api.OK {
				t.Errorf("P2.7: Frame of %d pieces of %.20q.. = %.40x.., %d, want %.40x..", len(pieces), body, got, code, want)
			}
		}
	}
	if got, code := wire.Frame([]byte("b"), []byte("a"), []byte("b")); !bytes.Equal(got, frameAgain("bab")) || code != api.OK {
		t.Errorf("P2.7: the pieces' order: %x, %d", got, code)
	}
}

// TestFrameLengths: P2.7, the lengths about MaxFrame, in one piece and in several.
func TestFrameLengths(t *testing.T) {
	body := bytes.Repeat([]byte("l"), 2*api.MaxFrame)
	for _, c := range []struct {
		lengths []int
		code    api.Errno
	}{
		{[]int{api.MaxFrame - 1}, api.OK},
		{[]int{api.MaxFrame}, api.OK},
		{[]int{api.MaxFrame, 0, 0}, api.OK},
		{[]int{api.MaxFrame - 1, 1}, api.OK},
		{[]int{1, 0, api.MaxFrame - 1}, api.OK},
		{[]int{api.MaxFrame + 1}, api.ErrLong},
		{[]int{api.MaxFrame, 1}, api.ErrLong},
		{[]int{1, api.MaxFrame}, api.ErrLong},
		{[]int{api.MaxFrame, 0, 1, 0}, api.ErrLong},
		{[]int{api.MaxFrame/2 + 1, api.MaxFrame / 2}, api.ErrLong},
		{[]int{2 * api.MaxFrame, 2 * api.MaxFrame, 1}, api.ErrLong},
	} {
		var pieces [][]byte
		sum := 0
		for _, n := range c.lengths {
			pieces = append(pieces, body[:n])
			sum += n
		}
		got, code := wire.Frame(pieces...)
		if code != c.code || code != api.OK && len(got) != 0 {
			t.Errorf("P2.7: Frame of lengths %v: %d bytes, %d, want %d", c.lengths, len(got), code, c.code)
		}
		if code == api.OK && !bytes.Equal(got, frameAgain(string(body[:sum]))) {
			t.Errorf("P2.7: Frame of lengths %v: not the frame", c.lengths)
		}
	}
}

// TestUnframe: P2.8, the wrong inputs in the order of their errors.
func TestUnframe(t *testing.T) {
	turned := func(data []byte, at int) string {
		other := bytes.Clone(data)
		other[at] ^= 0x10
		return string(other)
	}
	empty, abc := frameAgain(""), frameAgain("abc")
	longest := frameAgain(strings.Repeat("l", api.MaxFrame))
	tooLong := frameAgain(strings.Repeat("l", api.MaxFrame+1))
	for name, c := range map[string]struct {
		data string
		body string
		code api.Errno
	}{
		"an empty body":                        {string(empty), "", api.OK},
		"a body":                               {string(abc), "abc", api.OK},
		"the longest":                          {string(longest), strings.Repeat("l", api.MaxFrame), api.OK},
		"nothing":                              {"", "", api.ErrShort},
		"nine bytes":                           {string(abc[:9]), "", api.ErrShort},
		"nine bytes without a mark":            {"123456789", "", api.ErrShort},
		"ten bytes":                            {string(abc[:10]), "", api.ErrShort},
		"the last byte cut off":                {string(abc[:16]), "", api.ErrShort},
		"13 bytes of an empty body":            {string(empty[:13]), "", api.ErrShort},
		"cut short, the body turned":           {turned(abc, 11)[:16], "", api.ErrShort},
		"ten bytes without a mark":             {"1234567890", "", api.ErrFrame},
		"the mark's first byte":                {turned(abc, 0), "", api.ErrFrame},
		"the mark's second byte":               {turned(abc, 1), "", api.ErrFrame},
		"another mark with right sums":         {remarked(abc, 0xc4, 0x3a), "", api.ErrFrame},
		"half another mark with right sums":    {remarked(abc, 0xc5, 0x3b), "", api.ErrFrame},
		"cut to ten bytes, the mark turned":    {turned(abc, 0)[:10], "", api.ErrFrame},
		"cut to ten bytes, the length turned":  {turned(abc, 5)[:10], "", api.ErrFrame},
		"cut to ten bytes, the sum turned":     {turned(abc, 9)[:10], "", api.ErrFrame},
		"too long":                             {string(tooLong), "", api.ErrFrame},
		"a head that says too long a body":     {string(headOf(api.MaxFrame + 1)), "", api.ErrFrame},
		"a head that says the greatest length": {string(headOf(1<<32 - 1)), "", api.ErrFrame},
		"a head that says the longest body":    {string(headOf(api.MaxFrame)), "", api.ErrShort},
		"the longest, a byte cut off":          {string(longest[:len(longest)-1]), "", api.ErrShort},
		"a byte more":                          {string(abc) + "\x00", "", api.ErrFrame},
		"another frame behind":                 {string(abc) + string(abc), "", api.ErrFrame},
		"a byte ahead":                         {"\x00" + string(abc), "", api.ErrFrame},
		"the second sum turned":                {turned(abc, 16), "", api.ErrFrame},
		"the body turned":                      {turned(abc, 12), "", api.ErrFrame},
	} {
		if body, code := wire.Unframe([]byte(c.data)); string(body) != c.body || code != c.code {
			t.Errorf("P2.8: %s: %.20q.., %d, want %d", name, body, code, c.code)
		}
	}
	for at := range 10 {
		if body, code := wire.Unframe([]byte(turned(abc, at)[:16])); len(body) != 0 || code != api.ErrFrame {
			t.Errorf("P2.8: the byte %d of the head turned, and cut short: %q, %d, want ErrFrame", at, body, code)
		}
	}
	if body, code := wire.Unframe(nil); len(body) != 0 || code != api.ErrShort {
		t.Errorf("P2.8: Unframe(nil) = %q, %d", body, code)
	}
}

// remarked is a frame with another mark, and sums that are right for it.
func remarked(f []byte, first, second byte) string {
	other := bytes.Clone(f)
	other[0], other[1] = first, second
	binary.BigEndian.PutUint32(other[6:], crc32.ChecksumIEEE(other[:6]))
	end := len(other) - 4
	binary.BigEndian.PutUint32(other[end:], crc32.ChecksumIEEE(other[:end]))
	return string(other)
}

// TestFrameThereAndBack: P2.9, whole; and P2.8, cut at each byte.
func TestFrameThereAndBack(t *testing.T) {
	for _, body := range someBodies() {
		f, _ := wire.Frame([]byte(body))
		if back, code := wire.Unframe(f); string(back) != body || code != api.OK {
			t.Errorf("P2.9: Unframe of Frame(%.20q..) = %.20q.., %d", body, back, code)
		}
		if len(f) > 1000 {
			continue
		}
		for cut := range f {
			if back, code := wire.Unframe(f[:cut]); len(back) != 0 || code != api.ErrShort {
				t.Errorf("P2.8: Frame(%.20q..), cut to %d bytes: %q, %d", body, cut, back, code)
			}
		}
	}
}

// TestOneByteTurned: P2.9, each byte of a frame turned into each other one.
func TestOneByteTurned(t *testing.T) {
	for _, body := range []string{"", "a", "\xc5\x3a\x00", strings.Repeat("q", 300)} {
		f, _ := wire.Frame([]byte(body))
		for at := range f {
			for turn := 1; turn < 256; turn++ {
				f[at] ^= byte(turn)
				if back, code := wire.Unframe(f); len(back) != 0 || code != api.ErrFrame {
					t.Fatalf("P2.9: the byte %d of Frame(%.20q..) turned by %d: %q, %d", at, body, turn, back, code)
				}
				f[at] ^= byte(turn)
			}
		}
	}
}
