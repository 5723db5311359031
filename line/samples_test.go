package line_test

import (
	"fmt"
	"math"
	"math/rand/v2"
	"slices"
	"strconv"
	"strings"
	"testing"

	"herald/api"
	"herald/line"
)

const most = api.MaxNumber

// ends are numbers at and around the ends of what a number may be, of what may be in flight, of a byte, and of what an int can be.
func ends() []int {
	return []int{math.MinInt, math.MinInt + 1, -most - 1, -most, -256, -255, -2, -1, 0, 1, 2, 3, 254, 255, 256, 257, 258, 511, 512, most - 1, most, most + 1, 1 << 32, 1<<32 + 1, math.MaxInt - 1, math.MaxInt}
}

// letter is a message with something in every field, which that of no other number has.
func letter(number int) api.Message {
	return api.Message{From: 1000 + number, To: 2000 + number, Bytes: "letter " + strconv.Itoa(number) + strings.Repeat(".", number%5)}
}

// letters are so many messages, from a number on.
func letters(first, count int) []api.Message {
	var all []api.Message
	for number := first; number < first+count; number++ {
		all = append(all, letter(number))
	}
	return all
}

// bare has no bytes, so it can't be spoilt.
func bare() api.Message { return api.Message{From: 7, To: 8} }

// odd are messages that no server and no client sends: of a message nothing is asked.
func odd() []api.Message {
	return []api.Message{
		{},
		{From: math.MinInt, To: math.MaxInt},
		{From: -1, To: most + 1, Bytes: "\x00"},
		{From: 99999, To: -99999, Bytes: "\xff\xfe\x00\xc3\x28 \u00fc"},
	}
}

// long is a message that is longer than any frame.
func long() api.Message {
	return api.Message{From: 1, To: 1, Bytes: strings.Repeat("\xff\x00/", api.MaxFrame)}
}

// filled is a line with so many letters in flight, whose numbers are those of the letters.
func filled(t *testing.T, count int) *line.Line {
	t.Helper()
	l := line.New()
	sends(t, l, letters(1, count), rising(1, count)...)
	return l
}

func rising(first, count int) []int {
	var all []int
	for number := first; number < first+count; number++ {
		all = append(all, number)
	}
	return all
}

func lostAll(count int) []int { return slices.Repeat([]int{-1}, count) }

// lines are those that begin without a message.
func lines() map[string]func() *line.Line {
	return map[string]func() *line.Line{"New's": line.New, "a zero one": func() *line.Line { return &line.Line{} }}
}

// tell is a value as a text that is not too long to be read.
func tell(v any) string { return fmt.Sprintf("%.500s", fmt.Sprintf("%+v", v)) }

func sends(t *testing.T, l *line.Line, messages []api.Message, want ...int) {
	t.Helper()
	if got := l.Send(messages...); !slices.Equal(got, want) {
		t.Errorf("P16.1: Send of %d messages = %s, want %s", len(messages), tell(got), tell(want))
	}
}

// taking, looking and doubling hold all that the call answers: with an error the message, or the number, is zero.
func taking(t *testing.T, l *line.Line, number int, want api.Message, code api.Errno) {
	t.Helper()
	if got, c := l.Take(number); got != want || c != code {
		t.Errorf("P16.2: Take(%d) = %s, %d, want %s, %d", number, tell(got), c, tell(want), code)
	}
}

func looking(t *testing.T, l *line.Line, number int, want api.Message, code api.Errno) {
	t.Helper()
	if got, c := l.Look(number); got != want || c != code {
		t.Errorf("P16.2: Look(%d) = %s, %d, want %s, %d", number, tell(got), c, tell(want), code)
	}
}

func doubling(t *testing.T, l *line.Line, number, want int, code api.Errno) {
	t.Helper()
	if got, c := l.Double(number); got != want || c != code {
		t.Errorf("P16.3: Double(%d) = %d, %d, want %d, %d", number, got, c, want, code)
	}
}

func spoiling(t *testing.T, l *line.Line, number, at, turn int, want api.Errno) {
	t.Helper()
	if got := l.Spoil(number, at, turn); got != want {
		t.Errorf("P16.4: Spoil(%d, %d, %d) = %d, want %d", number, at, turn, got, want)
	}
}

func numbering(t *testing.T, l *line.Line, want ...int) {
	t.Helper()
	if got := l.Numbers(); !slices.Equal(got, want) {
		t.Errorf("P16.5: Numbers() = %s, want %s", tell(got), tell(want))
	}
}

// chance makes the same calls in every run.
type chance struct{ *rand.Rand }

func chanceOf(seed, kind uint64) chance { return chance{rand.New(rand.NewPCG(seed, kind))} }

func pick[T any](c chance, from ...T) T { return from[c.IntN(len(from))] }
