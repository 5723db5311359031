package line_test

import (
	"math"
	"slices"
	"strings"
	"testing"

	"herald/api"
	"herald/line"
)

// TestExamples: P16.1 to P16.5, the chapter's table.
func TestExamples(t *testing.T) {
	for _, begin := range lines() {
		l := begin()
		m, n := api.Message{From: 1, To: 2, Bytes: "ab"}, api.Message{From: 2, To: 101, Bytes: "n"}
		sends(t, l, []api.Message{m, n, m}, 1, 2, 3)
		sends(t, l, nil)
		taking(t, l, 2, n, api.OK)
		taking(t, l, 2, api.Message{}, api.ErrFlight)
		looking(t, l, 9, api.Message{}, api.ErrFlight)
		doubling(t, l, 1, 4, api.OK)
		spoiling(t, l, 1, 3, 1, api.OK)
		looking(t, l, 1, api.Message{From: 1, To: 2, Bytes: "ac"}, api.OK)
		looking(t, l, 4, m, api.OK)
		spoiling(t, l, 1, -1, 1, api.ErrArg)
		spoiling(t, l, 1, 0, 256, api.ErrArg)
		spoiling(t, l, 9, -1, 0, api.ErrFlight)
		spoiling(t, l, 1, 0, 1, api.ErrSpoilt)
		doubling(t, l, 1, 5, api.OK)
		spoiling(t, l, 5, 0, 1, api.ErrSpoilt)
		spoiling(t, l, 4, 0, 1, api.OK)
		numbering(t, l, 1, 3, 4, 5)
	}
}

// TestSend: P16.1, any number of messages with any number in flight ahead of them: those that find room are there, the others are lost.
func TestSend(t *testing.T) {
	for _, ahead := range []int{0, 1, 2, 100, 254, 255, 256} {
		for _, count := range []int{0, 1, 2, 3, 155, 156, 157, 254, 255, 256, 257, 258, 1000} {
			l := filled(t, ahead)
			room := min(count, api.MaxFlight-ahead)
			sends(t, l, letters(ahead+1, count), slices.Concat(rising(ahead+1, room), lostAll(count-room))...)
			numbering(t, l, rising(1, ahead+room)...)
			for number := 1; number <= ahead+room; number++ {
				looking(t, l, number, letter(number), api.OK)
			}
			looking(t, l, ahead+room+1, api.Message{}, api.ErrFlight)
		}
	}
}

// TestSendOneByOne: P16.1, messages that are sent one by one get the numbers that they would get all at once.
func TestSendOneByOne(t *testing.T) {
	for _, begin := range lines() {
		l := begin()
		for number := 1; number <= api.MaxFlight+3; number++ {
			want := number
			if number > api.MaxFlight {
				want = -1
			}
			sends(t, l, letters(number, 1), want)
			numbering(t, l, rising(1, min(number, api.MaxFlight))...)
		}
	}
}

// TestLostUseNoNumber: P16.1, a message that is lost uses up no number, nor does a double that finds no room.
func TestLostUseNoNumber(t *testing.T) {
	l := filled(t, api.MaxFlight)
	sends(t, l, letters(300, 5), -1, -1, -1, -1, -1)
	doubling(t, l, 3, 0, api.ErrFull)
	taking(t, l, 100, letter(100), api.OK)
	taking(t, l, 1, letter(1), api.OK)
	sends(t, l, letters(400, 3), 257, 258, -1)
	looking(t, l, 257, letter(400), api.OK)
	looking(t, l, 258, letter(401), api.OK)
	taking(t, l, 257, letter(400), api.OK)
	doubling(t, l, 100, 0, api.ErrFlight)
	doubling(t, l, 258, 259, api.OK)
	sends(t, l, letters(500, 1), -1)
	taking(t, l, 2, letter(2), api.OK)
	sends(t, l, letters(600, 2), 260, -1)
	numbering(t, l, slices.Concat(rising(3, 97), rising(101, 156), []int{258, 259, 260})...)
}

// TestNumbersAreUsedOnce: P16.1, numbers go on over all that was ever put in flight, doubles too, also when nothing is in flight any more.
func TestNumbersAreUsedOnce(t *testing.T) {
	l := line.New()
	next := 1
	for round := range 300 {
		sends(t, l, letters(round, 2), next, next+1)
		doubling(t, l, next, next+2, api.OK)
		doubling(t, l, next+2, next+3, api.OK)
		numbering(t, l, rising(next, 4)...)
		for i, want := range []api.Message{letter(round), letter(round + 1), letter(round), letter(round)} {
			taking(t, l, next+i, want, api.OK)
		}
		numbering(t, l)
		next += 4
	}
}

// TestOddMessages: P16.1 to P16.3, of a message nothing is asked: it comes out as it went in.
func TestOddMessages(t *testing.T) {
	l := line.New()
	all := append(odd(), long())
	sends(t, l, all, rising(1, len(all))...)
	for i, want := range all {
		doubling(t, l, 1+i, 1+i+len(all), api.OK)
		looking(t, l, 1+i, want, api.OK)
		taking(t, l, 1+i, want, api.OK)
		taking(t, l, 1+i+len(all), want, api.OK)
	}
	numbering(t, l)
}

// TestTake: P16.2, a message is taken once, whichever comes first; the others stay.
func TestTake(t *testing.T) {
	for number := 1; number <= 5; number++ {
		for second := 1; second <= 5; second++ {
			l := filled(t, 5)
			taking(t, l, number, letter(number), api.OK)
			if second == number {
				taking(t, l, second, api.Message{}, api.ErrFlight)
			} else {
				taking(t, l, second, letter(second), api.OK)
			}
			left := slices.DeleteFunc(rising(1, 5), func(n int) bool { return n == number || n == second })
			numbering(t, l, left...)
			for _, n := range left {
				looking(t, l, n, letter(n), api.OK)
			}
		}
	}
}

// TestLookStays: P16.2, a message that is looked at stays, however often.
func TestLookStays(t *testing.T) {
	l := filled(t, 3)
	for range 5 {
		looking(t, l, 2, letter(2), api.OK)
		numbering(t, l, 1, 2, 3)
	}
	taking(t, l, 2, letter(2), api.OK)
	looking(t, l, 2, api.Message{}, api.ErrFlight)
}

// TestNotInFlight: P16.2 to P16.4, numbers that were taken, were never used, are 0 or below: whatever else is wrong.
func TestNotInFlight(t *testing.T) {
	empty, some, full := line.New(), filled(t, 3), filled(t, api.MaxFlight)
	some.Take(2)
	full.Take(2)
	full.Send(letter(9))
	for name, l := range map[string]*line.Line{"an empty line": empty, "some": some, "a full line": full, "nil": nil, "zero": {}} {
		before := l.Numbers()
		for _, number := range append(ends(), 4, 100, 256) {
			if slices.Contains(before, number) {
				continue
			}
			taking(t, l, number, api.Message{}, api.ErrFlight)
			looking(t, l, number, api.Message{}, api.ErrFlight)
			doubling(t, l, number, 0, api.ErrFlight)
			for _, at := range ends() {
				spoiling(t, l, number, at, 1, api.ErrFlight)
				spoiling(t, l, number, 0, at, api.ErrFlight)
				spoiling(t, l, number, -1, at, api.ErrFlight)
			}
		}
		if numbering(t, l, before...); t.Failed() {
			t.Fatalf("of %s", name)
		}
	}
}

// TestDouble: P16.3, a double is the message as it is now, with a life of its own.
func TestDouble(t *testing.T) {
	l := filled(t, 2)
	doubling(t, l, 2, 3, api.OK)
	spoiling(t, l, 2, 0, 1, api.OK)
	spoilt, _ := l.Look(2)
	doubling(t, l, 2, 4, api.OK)
	doubling(t, l, 4, 5, api.OK)
	taking(t, l, 2, spoilt, api.OK)
	looking(t, l, 3, letter(2), api.OK)
	looking(t, l, 4, spoilt, api.OK)
	taking(t, l, 4, spoilt, api.OK)
	taking(t, l, 5, spoilt, api.OK)
	doubling(t, l, 2, 0, api.ErrFlight)
	doubling(t, l, 3, 6, api.OK)
	taking(t, l, 3, letter(2), api.OK)
	looking(t, l, 6, letter(2), api.OK)
	numbering(t, l, 1, 6)
}

// TestDoubleRoom: P16.3, doubles find room up to MaxFlight, and then none; a number that is not in flight is found first.
func TestDoubleRoom(t *testing.T) {
	l := filled(t, 1)
	for number := 2; number <= api.MaxFlight; number++ {
		doubling(t, l, number-1, number, api.OK)
	}
	for _, number := range ends() {
		if 1 <= number && number <= api.MaxFlight {
			doubling(t, l, number, 0, api.ErrFull)
		} else {
			doubling(t, l, number, 0, api.ErrFlight)
		}
	}
	numbering(t, l, rising(1, api.MaxFlight)...)
	taking(t, l, 7, letter(1), api.OK)
	doubling(t, l, 7, 0, api.ErrFlight)
	doubling(t, l, 8, 257, api.OK)
	doubling(t, l, 7, 0, api.ErrFlight)
	doubling(t, l, 8, 0, api.ErrFull)
}

// turnedAt is the text with its byte at a place within it turned.
func turnedAt(text string, at, turn int) string {
	return text[:at] + string([]byte{text[at] ^ byte(turn)}) + text[at+1:]
}

// TestSpoilPlaces: P16.4, the place is counted round over the message's bytes, however far it lies.
func TestSpoilPlaces(t *testing.T) {
	for _, size := range []int{1, 2, 3, 7, 255, 256, 257, 1000} {
		text := strings.Repeat("spoil me", size)[:size]
		place := 0
		for at := range 3*size + 2 {
			spoilsAt(t, text, at, place)
			if place++; place == size {
				place = 0
			}
		}
		for _, at := range ends() {
			if at >= 0 {
				spoilsAt(t, text, at, at-at/size*size)
			}
		}
	}
}

func spoilsAt(t *testing.T, text string, at, place int) {
	t.Helper()
	l := line.New()
	l.Send(api.Message{From: 3, To: 4, Bytes: text})
	spoiling(t, l, 1, at, 0x15, api.OK)
	looking(t, l, 1, api.Message{From: 3, To: 4, Bytes: turnedAt(text, place, 0x15)}, api.OK)
}

// TestSpoilTurns: P16.4, every byte by every turn; From and To stay, and so does the rest.
func TestSpoilTurns(t *testing.T) {
	for turn := 1; turn <= 255; turn++ {
		for value := range 256 {
			l := line.New()
			text := string([]byte{0xff, byte(value), 0, 0x80})
			l.Send(api.Message{From: value, To: -turn, Bytes: text})
			spoiling(t, l, 1, 1, turn, api.OK)
			want := string([]byte{0xff, byte(value + turn - 2*(value&turn)), 0, 0x80})
			taking(t, l, 1, api.Message{From: value, To: -turn, Bytes: want}, api.OK)
		}
	}
}

// TestSpoilErrors: P16.4, all that may be wrong at one time: a number that is not in flight first, then the arguments and a message without bytes, then one that is spoilt.
func TestSpoilErrors(t *testing.T) {
	for _, at := range ends() {
		for _, turn := range ends() {
			l := line.New()
			sends(t, l, []api.Message{letter(1), bare(), letter(3), letter(4)}, 1, 2, 3, 4)
			spoiling(t, l, 3, 5, 5, api.OK)
			taking(t, l, 4, letter(4), api.OK)
			spoilt, _ := l.Look(3)
			isWrong := at < 0 || turn < 1 || turn > 255
			spoiling(t, l, 4, at, turn, api.ErrFlight)
			spoiling(t, l, 0, at, turn, api.ErrFlight)
			spoiling(t, l, 5, at, turn, api.ErrFlight)
			spoiling(t, l, 2, at, turn, api.ErrArg)
			if isWrong {
				spoiling(t, l, 3, at, turn, api.ErrArg)
				spoiling(t, l, 1, at, turn, api.ErrArg)
				looking(t, l, 1, letter(1), api.OK)
			} else {
				spoiling(t, l, 3, at, turn, api.ErrSpoilt)
				spoiling(t, l, 1, at, turn, api.OK)
				spoiling(t, l, 1, at, turn, api.ErrSpoilt)
			}
			looking(t, l, 2, bare(), api.OK)
			looking(t, l, 3, spoilt, api.OK)
			numbering(t, l, 1, 2, 3)
		}
	}
}

// TestSpoiltDoubles: P16.4, every double of a spoilt message is spoilt, and doubles of these; one that was made ahead is not, and can be spoilt alone.
func TestSpoiltDoubles(t *testing.T) {
	l := filled(t, 1)
	doubling(t, l, 1, 2, api.OK)
	spoiling(t, l, 1, 2, 9, api.OK)
	doubling(t, l, 1, 3, api.OK)
	doubling(t, l, 3, 4, api.OK)
	taking(t, l, 1, api.Message{From: 1001, To: 2001, Bytes: turnedAt(letter(1).Bytes, 2, 9)}, api.OK)
	doubling(t, l, 4, 5, api.OK)
	for number := 3; number <= 5; number++ {
		spoiling(t, l, number, 2, 9, api.ErrSpoilt)
		looking(t, l, number, api.Message{From: 1001, To: 2001, Bytes: turnedAt(letter(1).Bytes, 2, 9)}, api.OK)
	}
	looking(t, l, 2, letter(1), api.OK)
	doubling(t, l, 2, 6, api.OK)
	spoiling(t, l, 2, 3, 7, api.OK)
	looking(t, l, 2, api.Message{From: 1001, To: 2001, Bytes: turnedAt(letter(1).Bytes, 3, 7)}, api.OK)
	looking(t, l, 6, letter(1), api.OK)
	spoiling(t, l, 6, 0, 255, api.OK)
	sends(t, l, letters(1, 1), 7)
	spoiling(t, l, 7, 0, 1, api.OK)
}

// TestSpoilFull: P16.4, a message is spoilt also where there is no room for one more.
func TestSpoilFull(t *testing.T) {
	l := filled(t, api.MaxFlight)
	for number := 1; number <= api.MaxFlight; number++ {
		spoiling(t, l, number, number, number%255+1, api.OK)
		spoiling(t, l, number, 0, 1, api.ErrSpoilt)
	}
	for number := 1; number <= api.MaxFlight; number++ {
		want := letter(number)
		want.Bytes = turnedAt(want.Bytes, number%len(want.Bytes), number%255+1)
		looking(t, l, number, want, api.OK)
	}
}

// TestNumbersRise: P16.5 and W2, the numbers are told in their order, however many there are and whichever were taken, and each time the same.
func TestNumbersRise(t *testing.T) {
	for _, step := range []int{1, 2, 3, 7, 100} {
		l := filled(t, api.MaxFlight)
		want := rising(1, api.MaxFlight)
		for number := step; number <= api.MaxFlight; number += step {
			taking(t, l, number, letter(number), api.OK)
			want = slices.DeleteFunc(want, func(n int) bool { return n == number })
			numbering(t, l, want...)
		}
		for range 20 {
			numbering(t, l, want...)
		}
	}
}

// TestNil: P16.6, a nil line loses all that is sent, and has nothing.
func TestNil(t *testing.T) {
	var l *line.Line
	for _, count := range []int{0, 1, 2, 256, 257, 1000} {
		sends(t, l, letters(1, count), lostAll(count)...)
		numbering(t, l)
	}
	for _, number := range ends() {
		taking(t, l, number, api.Message{}, api.ErrFlight)
		looking(t, l, number, api.Message{}, api.ErrFlight)
		doubling(t, l, number, 0, api.ErrFlight)
		spoiling(t, l, number, 0, 1, api.ErrFlight)
		spoiling(t, l, number, -1, 0, api.ErrFlight)
	}
}

// TestZero: P16.6, a zero line is as New's, whichever call comes first.
func TestZero(t *testing.T) {
	for number, call := range []func(l *line.Line){
		func(l *line.Line) { numbering(t, l) },
		func(l *line.Line) { sends(t, l, nil) },
		func(l *line.Line) { taking(t, l, 1, api.Message{}, api.ErrFlight) },
		func(l *line.Line) { taking(t, l, 0, api.Message{}, api.ErrFlight) },
		func(l *line.Line) { looking(t, l, 0, api.Message{}, api.ErrFlight) },
		func(l *line.Line) { doubling(t, l, 0, 0, api.ErrFlight) },
		func(l *line.Line) { spoiling(t, l, 0, 0, 1, api.ErrFlight) },
	} {
		for _, begin := range lines() {
			l := begin()
			call(l)
			call(l)
			numbering(t, l)
			sends(t, l, letters(1, 2), 1, 2)
			doubling(t, l, 1, 3, api.OK)
			if numbering(t, l, 1, 2, 3); t.Failed() {
				t.Fatalf("P16.6: behind the call %d", number)
			}
		}
	}
	if line.New() == line.New() || line.New() == nil {
		t.Error("P16.6: New's lines are not lines of their own")
	}
}

// TestRefusedChangesNothing: P16.6, behind any refused call a line goes on as one that was not asked.
func TestRefusedChangesNothing(t *testing.T) {
	for _, count := range []int{0, 1, 3, 255, 256} {
		refusals := []func(l *line.Line){
			func(l *line.Line) { l.Take(count + 1) },
			func(l *line.Line) { l.Look(count + 1) },
			func(l *line.Line) { l.Double(count + 1) },
			func(l *line.Line) { l.Spoil(count+1, 0, 1) },
			func(l *line.Line) { l.Spoil(1, -1, 1) },
			func(l *line.Line) { l.Spoil(1, math.MinInt, 1) },
			func(l *line.Line) { l.Spoil(1, 0, 0) },
			func(l *line.Line) { l.Spoil(1, 0, 256) },
			func(l *line.Line) { l.Spoil(1, 0, math.MinInt+1) },
		}
		if count == api.MaxFlight {
			refusals = append(refusals, func(l *line.Line) { l.Double(1) }, func(l *line.Line) { l.Send(letter(9)) })
		}
		for number, refuse := range refusals {
			l := filled(t, count)
			refuse(l)
			numbering(t, l, rising(1, count)...)
			for n := 1; n <= count; n++ {
				spoiling(t, l, n, 0, 1, api.OK)
				spoiling(t, l, n, 0, 1, api.ErrSpoilt)
				want := letter(n)
				want.Bytes = turnedAt(want.Bytes, 0, 1)
				taking(t, l, n, want, api.OK)
			}
			if sends(t, l, letters(1, 1), count+1); t.Failed() {
				t.Fatalf("P16.6: behind the refusal %d", number)
			}
		}
	}
}

// TestSpoiltTwiceStays: P16.6, the refusal of a second spoiling leaves the message as the first one made it, and spoilt.
func TestSpoiltTwiceStays(t *testing.T) {
	l := filled(t, 2)
	spoiling(t, l, 2, 4, 4, api.OK)
	want, _ := l.Look(2)
	for turn := 1; turn <= 255; turn++ {
		spoiling(t, l, 2, 4, turn, api.ErrSpoilt)
		spoiling(t, l, 2, -1, turn, api.ErrArg)
		looking(t, l, 2, want, api.OK)
	}
}

// TestLastNumber: W7, no number passes MaxNumber: a message that would need it is lost, a double says ErrNumber behind the other errors, and nothing changes.
func TestLastNumber(t *testing.T) {
	l := filled(t, 3)
	l.Age(most - 2)
	sends(t, l, letters(4, 1), most-1)
	doubling(t, l, most-1, most, api.OK)
	doubling(t, l, most, 0, api.ErrNumber)
	sends(t, l, letters(5, 2), -1, -1)
	taking(t, l, 2, letter(2), api.OK)
	doubling(t, l, 2, 0, api.ErrFlight)
	doubling(t, l, 1, 0, api.ErrNumber)
	spoiling(t, l, most, 0, 1, api.OK)
	numbering(t, l, 1, 3, most-1, most)
	looking(t, l, most-1, letter(4), api.OK)
	full := filled(t, api.MaxFlight)
	full.Age(most)
	doubling(t, full, 1, 0, api.ErrFull)
	numbering(t, full, rising(1, api.MaxFlight)...)
}
