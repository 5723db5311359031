package wire_test

import (
	"bytes"
	"encoding/binary"
	"hash/crc32"
	"iter"
	"math/rand"
	"runtime"
	"slices"
	"strings"
	"testing"

	"herald/api"
	"herald/wire"
)

// saysAgain is what bytes say, in the document's words, over all of them at once.
func saysAgain(data []byte) (bodies []string, skipped int) {
	for at := 0; at < len(data); {
		rest := data[at:]
		if rest[0] != 0xc5 || len(rest) > 1 && rest[1] != 0x3a {
			skipped++
			at++
			continue
		}
		if len(rest) < 10 {
			break
		}
		n := int(binary.BigEndian.Uint32(rest[2:]))
		if crc32.ChecksumIEEE(rest[:6]) != binary.BigEndian.Uint32(rest[6:]) || n > api.MaxFrame {
			skipped++
			at++
			continue
		}
		if len(rest) < n+14 {
			break
		}
		if crc32.ChecksumIEEE(rest[:10+n]) != binary.BigEndian.Uint32(rest[10+n:]) {
			skipped++
			at++
			continue
		}
		bodies = append(bodies, string(rest[10:10+n]))
		at += n + 14
	}
	return bodies, skipped
}

// bodiesOf ranges over a Stream's bodies, and stops behind so many.
func bodiesOf(s *wire.Stream, most int) []string {
	var found []string
	if most == 0 {
		return nil
	}
	for body := range s.Bodies() {
		found = append(found, string(body))
		if len(found) == most {
			break
		}
	}
	return found
}

const all = 1 << 30

func joined(parts ...string) string { return strings.Join(parts, "") }

func framed(body string) string { return string(frameAgain(body)) }

// spoilt is a frame whose last byte is turned.
func spoilt(body string) string {
	f := frameAgain(body)
	f[len(f)-1] ^= 1
	return string(f)
}

// someLines are bytes as a line may bring them: frames, rubbish, marks, heads without a body, frames in spoilt frames.
func someLines() []string {
	in := joined(framed("one"), framed(""), framed("three"))
	return []string{
		"",
		"x",
		"\xc5",
		"\xc5\x3a",
		"\xc5\xc5\x3a",
		"\xc5x",
		framed(""),
		framed("a"),
		in,
		joined("x", framed("a"), "\xc5"),
		joined("x", framed("a"), "\xc5", "y"),
		joined("\xc5", framed("a"), "\x3a"),
		joined("\xc5\x3a", framed("a")),
		joined("\xc5\x3a12345678", framed("a")),
		joined("\xc5\x3a1234567", framed("a")),
		joined(in[:20], in),
		joined(in[:len(in)-1], framed("z")),
		spoilt(in),
		joined(spoilt(joined("q", spoilt(in), "\xc5")), "\xc5\x3a"),
		joined(string(headOf(api.MaxFrame+1)), framed("a")),
		joined(string(headOf(1<<32-1)), framed("a")),
		joined(string(headOf(3)), framed("a"), framed("b")),
		joined(string(headOf(30)), framed("a")),
		joined(remarked(frameAgain("a"), 0xc5, 0x3b), framed("b")),
		joined(remarked(frameAgain("a"), 0xc4, 0x3a), framed("b")),
		strings.Repeat("\xc5\x3a", 30),
		joined(framed(strings.Repeat("\xc5", 40)), spoilt(strings.Repeat("\xc5\x3a", 20)), framed("end")),
	}
}

func checkSays(t *testing.T, s *wire.Stream, got []string, line string, how string) {
	t.Helper()
	bodies, skipped := saysAgain([]byte(line))
	if !slices.Equal(got, bodies) || s.Skipped() != skipped {
		t.Fatalf("%s: %.80x.. (%d bytes): bodies %.80q, skipped %d, want %.80q, %d", how, line, len(line), got, s.Skipped(), bodies, skipped)
	}
}

// TestStreamExamples: P2.10, the document's examples.
func TestStreamExamples(t *testing.T) {
	var s wire.Stream
	s.Feed([]byte(joined("x", framed("a"), "\xc5")))
	if got := bodiesOf(&s, all); !slices.Equal(got, []string{"a"}) || s.Skipped() != 1 {
		t.Errorf("P2.10: %q, skipped %d", got, s.Skipped())
	}
	s.Feed([]byte("y"))
	if got := bodiesOf(&s, all); len(got) != 0 || s.Skipped() != 3 {
		t.Errorf("P2.10: a byte more: %q, skipped %d", got, s.Skipped())
	}
}

// TestStreamWaits: P2.10, at each byte of each line just what the bytes up to there say has been found and skipped.
func TestStreamWaits(t *testing.T) {
	for _, line := range someLines() {
		var eager, lazy wire.Stream
		var got []string
		for i := range len(line) {
			eager.Feed([]byte{line[i]})
			lazy.Feed([]byte{line[i]})
			got = append(got, bodiesOf(&eager, all)...)
			checkSays(t, &eager, got, line[:i+1], "P2.10, byte by byte")
			if _, skipped := saysAgain([]byte(line[:i+1])); lazy.Skipped() != skipped {
				t.Fatalf("P2.10: Skipped of %x, nothing handed on: %d, want %d", line[:i+1], lazy.Skipped(), skipped)
			}
		}
		checkSays(t, &lazy, bodiesOf(&lazy, all), line, "P2.10, asked in the end")
	}
}

// TestStreamPieces: P2.11, each line cut at each two places, asked between or not.
func TestStreamPieces(t *testing.T) {
	for _, line := range someLines() {
		for first := 0; first <= len(line); first++ {
			for second := first; second <= len(line); second++ {
				var asked, not wire.Stream
				var got []string
				for _, piece := range []string{line[:first], line[first:second], line[second:]} {
					asked.Feed([]byte(piece))
					not.Feed([]byte(piece))
					got = append(got, bodiesOf(&asked, all)...)
				}
				checkSays(t, &asked, got, line, "P2.11, asked between")
				checkSays(t, &not, bodiesOf(&not, all), line, "P2.11, asked in the end")
			}
		}
	}
}

// TestStreamChance: P2.11, long lines of mixed parts in pieces of many lengths, asked for some bodies now and then.
func TestStreamChance(t *testing.T) {
	chance := rand.New(rand.NewSource(2))
	parts := someLines()
	for range 300 {
		var line strings.Builder
		for range 12 {
			part := parts[chance.Intn(len(parts))]
			line.WriteString(part[:len(part)-chance.Intn(len(part)+1)/4])
		}
		var s wire.Stream
		var got []string
		for rest := line.String(); rest != ""; {
			cut := min(1+chance.Intn(60), len(rest))
			s.Feed([]byte(rest[:cut]))
			rest = rest[cut:]
			got = append(got, bodiesOf(&s, chance.Intn(3))...)
		}
		got = append(got, bodiesOf(&s, all)...)
		checkSays(t, &s, got, line.String(), "P2.11, by chance")
	}
}

// TestStreamGreat: P2.11 and P2.12, frames of the longest body, and pieces longer and shorter than they are.
func TestStreamGreat(t *testing.T) {
	body := make([]byte, api.MaxFrame)
	rand.New(rand.NewSource(3)).Read(body)
	longest, nearly := framed(string(body)), framed(string(body[1:]))
	line := joined(longest, nearly, "rubbish", spoilt(longest[:api.MaxFrame]), framed("end"), longest)
	for _, n := range []int{1, 1000, 65535, 65536, 65537, api.MaxFrame, api.MaxFrame + 14, len(line)} {
		var s wire.Stream
		for piece := range slices.Chunk([]byte(line), n) {
			s.Feed(piece)
		}
		checkSays(t, &s, bodiesOf(&s, all), line, "P2.11, great pieces")
	}
}

// TestStreamFindsAll: P2.12, frames one behind the other, and rubbish without a 0xC5 ahead of them, cut into pieces of each length.
func TestStreamFindsAll(t *testing.T) {
	bodies := []string{"", "a", "", "\xc5", "\xc5\x3a", string(frameAgain("in")), "abc", strings.Repeat("\xc5", 30)}
	var rubbish, frames []byte
	for b := range 256 {
		if b != 0xc5 {
			rubbish = append(rubbish, byte(b), byte(255-b)&0x3a)
		}
	}
	for _, body := range bodies {
		f, _ := wire.Frame([]byte(body))
		frames = append(frames, f...)
	}
	for n := 1; n <= len(rubbish)+len(frames); n++ {
		var s wire.Stream
		for piece := range slices.Chunk(rubbish, n) {
			s.Feed(piece)
		}
		if got := bodiesOf(&s, all); len(got) != 0 || s.Skipped() != len(rubbish) {
			t.Fatalf("P2.12: rubbish in pieces of %d: %q, skipped %d of %d", n, got, s.Skipped(), len(rubbish))
		}
		for piece := range slices.Chunk(frames, n) {
			s.Feed(piece)
		}
		if got := bodiesOf(&s, all); !slices.Equal(got, bodies) || s.Skipped() != len(rubbish) {
			t.Fatalf("P2.12: frames in pieces of %d: %q, skipped %d", n, got, s.Skipped())
		}
	}
}

// TestStopEarly: P2.10, who stops finds the others the next time, with the same Bodies or with a new one.
func TestStopEarly(t *testing.T) {
	var s wire.Stream
	bodies := s.Bodies()
	s.Feed([]byte(joined("xx", framed("a"), framed("b"), "y", framed("c"), framed("d"))))
	if s.Skipped() != 3 {
		t.Errorf("P2.10: skipped %d ahead of any body handed on", s.Skipped())
	}
	var got []string
	for range 2 {
		for body := range bodies {
			got = append(got, string(body))
			break
		}
	}
	if !slices.Equal(got, []string{"a", "b"}) {
		t.Errorf("P2.10: one body each: %q", got)
	}
	if got := bodiesOf(&s, all); !slices.Equal(got, []string{"c", "d"}) {
		t.Errorf("P2.10: the others: %q", got)
	}
	for body := range bodies {
		t.Errorf("P2.10: handed on twice: %q", body)
	}
	s.Feed([]byte(framed("e")))
	for body := range bodies {
		got = append(got, string(body))
	}
	if !slices.Equal(got, []string{"a", "b", "e"}) || s.Skipped() != 3 {
		t.Errorf("P2.10: the Bodies of long ago: %q, skipped %d", got, s.Skipped())
	}
}

// TestToldToStop: W1, nothing is handed on behind a no.
func TestToldToStop(t *testing.T) {
	var s wire.Stream
	s.Feed([]byte(joined(framed("a"), framed("b"))))
	calls := 0
	s.Bodies()(func([]byte) bool {
		calls++
		return false
	})
	if calls != 1 {
		t.Errorf("W1: asked to stop at the first body, called %d times", calls)
	}
}

// TestFeedWithin: P2.10, a range goes on to what is fed while it goes on.
func TestFeedWithin(t *testing.T) {
	var s wire.Stream
	s.Feed([]byte(framed("0")))
	last := framed("9")
	var got []string
	for body := range s.Bodies() {
		got = append(got, string(body))
		switch len(got) {
		case 1:
			s.Feed([]byte(joined("junk", framed("1"), framed("2"))))
		case 2:
			s.Feed([]byte(last[:5]))
		case 3:
			s.Feed([]byte(last[5:]))
		}
	}
	if !slices.Equal(got, []string{"0", "1", "2", "9"}) || s.Skipped() != 4 {
		t.Errorf("P2.10: fed within the range: %q, skipped %d", got, s.Skipped())
	}
}

// TestRangesWithin: P2.10, of two ranges at one time each body goes to the one that asks first.
func TestRangesWithin(t *testing.T) {
	var s wire.Stream
	for _, body := range []string{"a", "b", "c", "d", "e"} {
		s.Feed([]byte(framed(body)))
	}
	var outer, inner []string
	for body := range s.Bodies() {
		outer = append(outer, string(body))
		inner = append(inner, bodiesOf(&s, 1)...)
	}
	if !slices.Equal(outer, []string{"a", "c", "e"}) || !slices.Equal(inner, []string{"b", "d"}) {
		t.Errorf("P2.10: outer %q, inner %q", outer, inner)
	}

	s.Feed([]byte(joined(framed("f"), framed("g"), framed("h"), framed("i"))))
	bodies := s.Bodies()
	nextLeft, stopLeft := iter.Pull(bodies)
	defer stopLeft()
	nextRight, stopRight := iter.Pull(bodies)
	defer stopRight()
	var turns []string
	for _, next := range []func() ([]byte, bool){nextLeft, nextRight, nextRight, nextLeft} {
		body, ok := next()
		turns = append(turns, string(body))
		if !ok {
			t.Error("P2.10: a range ended ahead of the last body")
		}
	}
	if !slices.Equal(turns, []string{"f", "g", "h", "i"}) {
		t.Errorf("P2.10: in turns: %q", turns)
	}
}

// TestNoStream: P2.10 and W1, a zero and a nil Stream.
func TestNoStream(t *testing.T) {
	var none *wire.Stream
	var zero wire.Stream
	for range 2 {
		for _, s := range []*wire.Stream{none, &zero} {
			if got := bodiesOf(s, all); len(got) != 0 || s.Skipped() != 0 {
				t.Errorf("P2.10: nothing was fed: %q, skipped %d", got, s.Skipped())
			}
		}
		none.Feed([]byte(joined("x", framed("a"))))
		none.Feed(nil)
		zero.Feed(nil)
		zero.Feed([]byte{})
	}
	zero.Feed([]byte(framed("a")))
	if got := bodiesOf(&zero, all); !slices.Equal(got, []string{"a"}) {
		t.Errorf("P2.10: behind empty pieces: %q", got)
	}
}

// TestBodiesStay: P2.13, a body does not change by what is fed later, nor by what is written into another one's room.
func TestBodiesStay(t *testing.T) {
	var s wire.Stream
	line := []byte(joined(framed("first"), framed("second"), framed("third"), framed("")[:13]))
	s.Feed(line)
	clear(line)
	var got [][]byte
	for body := range s.Bodies() {
		got = append(got, body)
		whole := body[:cap(body)]
		for i := range whole[len(body):] {
			whole[len(body)+i] = 0xee
		}
		s.Feed([]byte(strings.Repeat("later", 50)))
	}
	want := [][]byte{[]byte("first"), []byte("second"), []byte("third")}
	if !slices.EqualFunc(got, want, bytes.Equal) {
		t.Errorf("P2.13: %q", got)
	}
	for i := range got {
		clear(got[i])
	}
	s.Feed([]byte(framed("fourth")))
	if got := bodiesOf(&s, all); !slices.Equal(got, []string{"fourth"}) {
		t.Errorf("P2.13: behind bodies that were written into: %q", got)
	}
}

// TestStreamKeepsLittle: what was decided and handed on is not held on to.
func TestStreamKeepsLittle(t *testing.T) {
	const many, few = 200000, 40
	rubbish := make([]byte, 8<<20)
	frames := bytes.Repeat(frameAgain(""), many)
	great := bytes.Repeat(frameAgain(strings.Repeat("g", api.MaxFrame)), few)
	var s wire.Stream
	before := heapInUse()
	checkLittle := func(what string) {
		t.Helper()
		if kept := heapInUse() - before; kept > 3<<20 {
			t.Errorf("behind %s a Stream keeps %d bytes", what, kept)
		}
	}
	s.Feed(rubbish)
	checkLittle("rubbish")
	s.Feed(frames)
	if got := len(bodiesOf(&s, all)); got != many || s.Skipped() != len(rubbish) {
		t.Errorf("P2.12: %d bodies, skipped %d", got, s.Skipped())
	}
	checkLittle("many small bodies")
	s.Feed(great)
	if got := len(bodiesOf(&s, few-1)); got != few-1 {
		t.Errorf("P2.12: %d great bodies", got)
	}
	checkLittle("all great bodies but one")
	if got := len(bodiesOf(&s, all)); got != 1 {
		t.Errorf("P2.10: %d bodies are left", got)
	}
	runtime.KeepAlive(&s)
	runtime.KeepAlive([][]byte{rubbish, frames, great})
}
