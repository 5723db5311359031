package shot_test

import (
	"bytes"
	"encoding/hex"
	"slices"
	"strings"
	"testing"

	"herald/api"
	"herald/shot"
)

func unhex(t *testing.T, text string) []byte {
	t.Helper()
	data, err := hex.DecodeString(strings.ReplaceAll(text, " ", ""))
	if err != nil {
		t.Fatal(err)
	}
	return data
}

func encoded(t *testing.T, s api.Shot) []byte {
	t.Helper()
	data, code := shot.Encode(s)
	if code != api.OK {
		t.Fatalf("P5.6: Encode(%s) = %d", tell(s), code)
	}
	return data
}

// decodes holds Decode against the second reckoning, and that what is read is written as the same bytes; it tells whether the bytes are a shot's.
func decodes(t *testing.T, data []byte) bool {
	t.Helper()
	want, is := decodeAgain(data)
	got, code := shot.Decode(data)
	if is != (code == api.OK) || !is && code != api.ErrShot || !same(got, want) {
		t.Fatalf("P5.7: Decode(%.200x) = %s, %d, want %s, %v", data, tell(got), code, tell(want), is)
	}
	if is && !bytes.Equal(encoded(t, got), data) {
		t.Fatalf("P5.7: Encode of Decode of %.200x is %.200x", data, encoded(t, got))
	}
	return is
}

// refusesBytes holds that bytes are no shot's.
func refusesBytes(t *testing.T, want api.Errno, data []byte) {
	t.Helper()
	if s, code := shot.Decode(data); code != want || !isZero(s) {
		t.Errorf("P5.7: Decode(%.200x) = %s, %d, want %d", data, tell(s), code, want)
	}
}

// TestBytes: P5.6 and P5.7, the example and others, byte by byte.
func TestBytes(t *testing.T) {
	first, second, third := exampleShots()
	for _, c := range []struct {
		s    api.Shot
		want string
	}{
		{first, "05 02 2f61 01 01 02 2f61 01 78 02"},
		{second, "05 02 2f61 02 02 02 2f61 00 00 04 2f612f62 00 00"},
		{third, "05 02 2f61 03 03 02 2f61 01 78 02 04 2f612f62 01 79 00 06 2f612f622f63 00 00"},
		{shotOf(0, "/z", kids), "00 02 2f7a 02 00"},
		{shotOf(300, "/", node, see("/", "\x00\xff", most)), "ac02 01 2f 01 01 01 2f 02 00ff ffffffff07"},
		{shotOf(most, "/", kids, bare("/", "/b")...), "ffffffff07 01 2f 02 02 01 2f 00 00 02 2f62 00 00"},
	} {
		if data := encoded(t, c.s); !bytes.Equal(data, unhex(t, c.want)) {
			t.Errorf("P5.6: Encode(%v) = % x, want %s", c.s, data, c.want)
		}
		if s, code := shot.Decode(unhex(t, c.want)); code != api.OK || !same(s, c.s) {
			t.Errorf("P5.7: Decode(%s) = %v, %d, want %v", c.want, s, code, c.s)
		}
	}
}

// TestThereAndBack: P5.6 and P5.7, all samples and many more.
func TestThereAndBack(t *testing.T) {
	c := chanceOf(4, 5)
	all := samples()
	for range 4000 {
		all = append(all, c.shot(c.place(), c.kind()))
	}
	for _, s := range all {
		data := encoded(t, s)
		if want := bytesAgain(s); !bytes.Equal(data, want) {
			t.Errorf("P5.6: Encode(%s) = %.200x, want %.200x", tell(s), data, want)
		}
		if got, code := shot.Decode(data); code != api.OK || !same(got, s) {
			t.Errorf("P5.7: %s came back as %s, %d", tell(s), tell(got), code)
		}
	}
}

// TestEncodeRefuses: P5.6, shots that may not be.
func TestEncodeRefuses(t *testing.T) {
	for _, s := range []api.Shot{{}, shotOf(-1, "/a", node), shotOf(most+1, "/a", node), shotOf(0, "a", node), shotOf(0, "/a", 0), shotOf(0, "/", node), shotOf(0, "/a", subtree, bare("/a/b")...), shotOf(0, "/a", kids, see("/a", "x", 0)), row(subtree, 0, "/a", "", 0, api.MaxNodes+1)} {
		if data, code := shot.Encode(s); code != api.ErrShot || len(data) != 0 {
			t.Errorf("P5.6: Encode(%s) = %.100x, %d", tell(s), data, code)
		}
	}
}

// TestSpoiltShotsAreNoBytes: P5.6 and P5.7, the bytes of a shot that may not be are no shot's.
func TestSpoiltShotsAreNoBytes(t *testing.T) {
	c := chanceOf(5, 5)
	none := 0
	for range 20000 {
		s := c.spoiled(c.shot(c.place(), c.kind()))
		if mayBeAgain(s) {
			continue
		}
		if data, code := shot.Encode(s); code != api.ErrShot || len(data) != 0 {
			t.Fatalf("P5.6: Encode(%v) = %x, %d", s, data, code)
		}
		if min(s.Stamp, s.Kind) >= 0 && !slices.ContainsFunc(s.Nodes, func(n api.Seen) bool { return n.Version < 0 }) {
			refusesBytes(t, api.ErrShot, bytesAgain(s))
			none++
		}
	}
	if none < 1000 {
		t.Errorf("only %d shots that may not be", none)
	}
	refusesBytes(t, api.ErrShot, bytesAgain(row(subtree, 0, "/a", "", 0, api.MaxNodes+1)))
	refusesBytes(t, api.ErrShot, bytesAgain(row(kids, 0, "/", "", 0, api.MaxNodes+1)))
}

// TestCutShort: P5.7, bytes that are cut short anywhere, or have more behind.
func TestCutShort(t *testing.T) {
	for _, s := range samples() {
		data := encoded(t, s)
		for k := range data {
			refusesBytes(t, api.ErrShot, data[:k])
		}
		for b := range 256 {
			refusesBytes(t, api.ErrShot, append(bytes.Clone(data), byte(b)))
		}
		refusesBytes(t, api.ErrShot, append(bytes.Clone(data), data...))
	}
}

// TestTurnedBytes: P5.7, every byte of a shot turned into every other one.
func TestTurnedBytes(t *testing.T) {
	is := 0
	for _, s := range plain() {
		data := encoded(t, s)
		for i, old := range data {
			for b := range 256 {
				data[i] = byte(b)
				if decodes(t, data) {
					is++
				}
			}
			data[i] = old
		}
	}
	if is < 1000 {
		t.Errorf("only %d turned shots are still shots", is)
	}
}

// TestPatchedBytes: P5.7, bytes put in, taken out, doubled and swapped, at a few places at once.
func TestPatchedBytes(t *testing.T) {
	c := chanceOf(6, 5)
	for range 60000 {
		data := encoded(t, c.shot(c.place(), c.kind()))
		for range 1 + c.IntN(3) {
			i := c.IntN(len(data))
			switch c.IntN(4) {
			case 0:
				data = slices.Insert(data, i, pick[byte](c, 0, 1, 2, 3, 0x2f, 0x80, 0xff))
			case 1:
				data = slices.Delete(data, i, i+1)
			case 2:
				data = slices.Insert(data, i, data[i:min(len(data), i+1+c.IntN(9))]...)
			case 3:
				k := c.IntN(len(data))
				data[i], data[k] = data[k], data[i]
			}
			if len(data) == 0 {
				break
			}
		}
		decodes(t, data)
	}
}

// TestLongForms: P5.7, numbers that are not in their shortest form, at every place where a number stands, and numbers that are too great.
func TestLongForms(t *testing.T) {
	for _, text := range []string{
		"",
		"8500 02 2f61 01 01 02 2f61 01 78 02",
		"05 8200 2f61 01 01 02 2f61 01 78 02",
		"05 02 2f61 8100 01 02 2f61 01 78 02",
		"05 02 2f61 01 8100 02 2f61 01 78 02",
		"05 02 2f61 01 01 8200 2f61 01 78 02",
		"05 02 2f61 01 01 02 2f61 8100 78 02",
		"05 02 2f61 01 01 02 2f61 01 78 8200",
		"8080808008 02 2f61 01 00",
		"05 02 2f61 01 01 02 2f61 01 78 8080808008",
		"ffffffffff 02 2f61 01 00",
		"05 02 2f61 01 ffffffff07",
		"05 02 2f61 03 ffffffff07 02 2f61 00 00",
		"05 ffffffff07 2f61 01 00",
		"05 81801000 01 00",
		"05 02 2f61 09 00",
		"05 02 2f61 00 00",
		"00 01 2f 03 00",
	} {
		if decodes(t, unhex(t, text)) {
			t.Errorf("P5.7: %s is a shot's", text)
		}
	}
}

// TestDecodeLong: P5.7, bytes that are too many are found by their number alone.
func TestDecodeLong(t *testing.T) {
	for _, size := range []int{api.MaxFrame + 1, api.MaxFrame * 4} {
		refusesBytes(t, api.ErrLong, make([]byte, size))
		refusesBytes(t, api.ErrLong, bytes.Repeat([]byte{0xff}, size))
	}
	refusesBytes(t, api.ErrShot, make([]byte, api.MaxFrame))
	refusesBytes(t, api.ErrShot, bytes.Repeat([]byte{0xff}, api.MaxFrame))
	data := encoded(t, greatest()[0])
	refusesBytes(t, api.ErrShot, append(bytes.Clone(data), make([]byte, api.MaxFrame-len(data))...))
	refusesBytes(t, api.ErrLong, append(bytes.Clone(data), make([]byte, api.MaxFrame-len(data)+1)...))
}

// FuzzDecode: P5.7, whatever the bytes are.
func FuzzDecode(f *testing.F) {
	for _, s := range plain() {
		f.Add(bytesAgain(s))
	}
	f.Fuzz(func(t *testing.T, data []byte) {
		if len(data) <= api.MaxFrame {
			decodes(t, data)
		}
	})
}
