package line_test

import (
	"fmt"
	"math"
	"slices"
	"strconv"
	"testing"

	"herald/api"
	"herald/line"
)

// again is a line by other means: a plain list of all that was ever put in flight, in which nothing moves.
type again struct {
	isNil bool
	all   []put
}

type put struct {
	message          api.Message
	isSpoilt, isAway bool
}

func (g *again) numbers() []int {
	var list []int
	for i, p := range g.all {
		if !p.isAway {
			list = append(list, i+1)
		}
	}
	return list
}

func (g *again) isIn(number int) bool {
	return 0 < number && number <= len(g.all) && !g.all[number-1].isAway
}

func (g *again) hasRoom() bool { return !g.isNil && len(g.numbers()) < 256 }

func (g *again) send(messages []api.Message) []int {
	var list []int
	for _, m := range messages {
		if !g.hasRoom() {
			list = append(list, -1)
			continue
		}
		g.all = append(g.all, put{message: m})
		list = append(list, len(g.all))
	}
	return list
}

func (g *again) look(number int) (api.Message, api.Errno) {
	if !g.isIn(number) {
		return api.Message{}, api.ErrFlight
	}
	return g.all[number-1].message, api.OK
}

func (g *again) take(number int) (api.Message, api.Errno) {
	m, code := g.look(number)
	if code == api.OK {
		g.all[number-1].isAway = true
	}
	return m, code
}

// reason is an error with whether it applies.
type reason struct {
	applies bool
	code    api.Errno
}

func first(reasons ...reason) api.Errno {
	for _, r := range reasons {
		if r.applies {
			return r.code
		}
	}
	return api.OK
}

func (g *again) double(number int) (int, api.Errno) {
	if code := first(reason{!g.isIn(number), api.ErrFlight}, reason{!g.hasRoom(), api.ErrFull}); code != api.OK {
		return 0, code
	}
	g.all = append(g.all, g.all[number-1])
	return len(g.all), api.OK
}

func (g *again) spoil(number, at, turn int) api.Errno {
	var p put
	if g.isIn(number) {
		p = g.all[number-1]
	}
	size := len(p.message.Bytes)
	code := first(
		reason{!g.isIn(number), api.ErrFlight},
		reason{at < 0, api.ErrArg},
		reason{turn < 1, api.ErrArg},
		reason{turn > 255, api.ErrArg},
		reason{size == 0, api.ErrArg},
		reason{p.isSpoilt, api.ErrSpoilt})
	if code == api.OK {
		p.message.Bytes = turnedAt(p.message.Bytes, at-at/size*size, turn)
		p.isSpoilt = true
		g.all[number-1] = p
	}
	return code
}

// isLike holds all that a line shows.
func (g *again) isLike(t *testing.T, l *line.Line) {
	t.Helper()
	numbering(t, l, g.numbers()...)
	for number := max(-1, len(g.all)-600); number <= len(g.all)+2; number++ {
		want, code := g.look(number)
		looking(t, l, number, want, code)
	}
}

// isLikeInside holds what only a spoiling shows: which messages are spoilt. It ends the play.
func (g *again) isLikeInside(t *testing.T, l *line.Line) {
	t.Helper()
	for _, number := range g.numbers() {
		spoiling(t, l, number, 0, 1, g.spoil(number, 0, 1))
	}
	g.isLike(t, l)
}

// call is one call of a line, and what it answered.
type call struct {
	kind             string
	number, at, turn int
	messages         []api.Message
}

func (x call) String() string {
	return fmt.Sprintf("%s(%d, %d, %d) of %d messages", x.kind, x.number, x.at, x.turn, len(x.messages))
}

type answer struct {
	code    api.Errno
	number  int
	message api.Message
	numbers []int
}

func (a answer) is(b answer) bool {
	return a.code == b.code && a.number == b.number && a.message == b.message && slices.Equal(a.numbers, b.numbers)
}

func (x call) on(l *line.Line) answer {
	var a answer
	switch x.kind {
	case "send":
		a.numbers = l.Send(x.messages...)
	case "take":
		a.message, a.code = l.Take(x.number)
	case "look":
		a.message, a.code = l.Look(x.number)
	case "double":
		a.number, a.code = l.Double(x.number)
	case "spoil":
		a.code = l.Spoil(x.number, x.at, x.turn)
	default:
		a.numbers = l.Numbers()
	}
	return a
}

func (x call) again(g *again) answer {
	var a answer
	switch x.kind {
	case "send":
		a.numbers = g.send(x.messages)
	case "take":
		a.message, a.code = g.take(x.number)
	case "look":
		a.message, a.code = g.look(x.number)
	case "double":
		a.number, a.code = g.double(x.number)
	case "spoil":
		a.code = g.spoil(x.number, x.at, x.turn)
	default:
		a.numbers = g.numbers()
	}
	return a
}

func send(messages ...api.Message) call         { return call{kind: "send", messages: messages} }
func take(number int) call                      { return call{kind: "take", number: number} }
func look(number int) call                      { return call{kind: "look", number: number} }
func double(number int) call                    { return call{kind: "double", number: number} }
func spoil(number, at, turn int) call           { return call{kind: "spoil", number: number, at: at, turn: turn} }
func (g *again) oldest() int                    { return slices.Concat(g.numbers(), []int{0})[0] }
func (g *again) newest() int                    { return slices.Concat([]int{0}, g.numbers())[len(g.numbers())] }
func (g *again) lettersNow(n int) []api.Message { return letters(len(g.all)+1, n) }

// moves is how many calls small scripts are made of.
const moves = 11

// move is one of these, by what the line is then.
func move(g *again, number int) call {
	switch number {
	case 0:
		return send(g.lettersNow(1)...)
	case 1:
		return send(bare(), letter(len(g.all)))
	case 2:
		return take(g.oldest())
	case 3:
		return take(g.newest())
	case 4:
		return double(g.oldest())
	case 5:
		return double(g.newest())
	case 6:
		return spoil(g.oldest(), 0, 1)
	case 7:
		return spoil(g.newest(), len(g.all)+20, 1+len(g.all)%255)
	case 8:
		return spoil(g.newest(), -1, 1)
	case 9:
		return double(len(g.all) + 1)
	}
	return take(len(g.all))
}

// TestAllSmallScripts: P16.1 to P16.6, all scripts of up to five calls out of eleven on lines that begin empty, and of up to three on such as are nil, full, or have room for one or two more.
func TestAllSmallScripts(t *testing.T) {
	for name, from := range map[string]struct {
		begin       func() *line.Line
		isNil       bool
		count, size int
	}{
		"New":  {begin: line.New, size: 5},
		"zero": {begin: func() *line.Line { return &line.Line{} }, size: 4},
		"nil":  {begin: func() *line.Line { return nil }, isNil: true, size: 3},
		"254":  {begin: line.New, count: 254, size: 3},
		"255":  {begin: line.New, count: 255, size: 3},
		"256":  {begin: line.New, count: 256, size: 3},
	} {
		t.Run(name, func(t *testing.T) {
			t.Parallel()
			scripts := 1
			for length := 1; length <= from.size; length++ {
				scripts *= moves
				for script := range scripts {
					l, g := from.begin(), &again{isNil: from.isNil}
					ahead := send(letters(1, from.count)...)
					ahead.on(l)
					ahead.again(g)
					play(t, l, g, script, length)
					if g.isLikeInside(t, l); t.Failed() {
						t.Fatalf("P16.1 to P16.6: behind the script %d of %d calls", script, length)
					}
				}
			}
		})
	}
}

// play goes along one small script, whose number says its calls.
func play(t *testing.T, l *line.Line, g *again, script, length int) {
	t.Helper()
	for rest := script; length > 0; length-- {
		x := move(g, rest%moves)
		rest /= moves
		if got, want := x.on(l), x.again(g); !got.is(want) {
			t.Fatalf("P16.1 to P16.6: script %d: %s = %s, want %s", script, x, tell(got), tell(want))
		}
	}
}

// call is one that is often taken, near an edge, and at times far from what may be.
func (c chance) call(g *again, crowd int) call {
	in := g.numbers()
	number := pick(c, append(in, 0)...)
	switch c.IntN(12) {
	case 0:
		number = pick(c, ends()...)
	case 1:
		number = pick(c, len(g.all), len(g.all)+1, c.IntN(len(g.all)+1), g.oldest(), g.newest())
	}
	kind := c.IntN(20)
	switch {
	case len(in) < crowd && kind < 6, kind < 3:
		return send(c.messages(g, crowd-len(in))...)
	case kind < 9:
		return take(number)
	case kind < 10:
		return look(number)
	case kind < 14:
		return double(number)
	case kind < 19:
		return spoil(number, pick(c, c.IntN(20), c.IntN(20), c.IntN(2000), pick(c, ends()...)), pick(c, 1+c.IntN(255), 1+c.IntN(255), 1+c.IntN(255), pick(c, ends()...)))
	}
	return call{kind: "numbers"}
}

// messages are none, some, or as many as fill the line up to a crowd and a few more.
func (c chance) messages(g *again, missing int) []api.Message {
	count := pick(c, 0, 1, 1, 1, 2, 3, max(0, missing), max(0, missing+1), max(0, missing-1))
	list := g.lettersNow(count)
	for i := range list {
		switch c.IntN(8) {
		case 0:
			list[i].Bytes = ""
		case 1:
			list[i] = pick(c, odd()...)
		}
	}
	return list
}

// TestScripts: P16.1 to P16.6, along long scripts of all calls in any order, on lines with few messages and on such as are full or nearly so.
func TestScripts(t *testing.T) {
	seen := map[string]int{}
	for seed := range uint64(300) {
		c := chanceOf(seed, 16)
		l, g := line.New(), &again{}
		crowd := pick(c, 0, 1, 3, 8, 254, 255, 256, 256)
		for range 200 {
			x := c.call(g, crowd)
			isSpoiltNow := x.number > 0 && g.isIn(x.number) && g.all[x.number-1].isSpoilt
			got, want := x.on(l), x.again(g)
			if !got.is(want) {
				t.Fatalf("P16.1 to P16.6: seed %d: %s = %s, want %s", seed, x, tell(got), tell(want))
			}
			seen[x.kind+" "+strconv.Itoa(int(want.code))]++
			if slices.Contains(want.numbers, -1) && x.kind == "send" {
				seen["lost"]++
			}
			if isSpoiltNow && want.code == api.OK {
				seen[x.kind+" of a spoilt one"]++
			}
			numbering(t, l, g.numbers()...)
			if c.IntN(20) == 0 {
				g.isLike(t, l)
			}
			if t.Failed() {
				t.Fatalf("P16.1 to P16.6: seed %d: behind %s", seed, x)
			}
		}
		if g.isLikeInside(t, l); t.Failed() {
			t.Fatalf("P16.4: seed %d: at the end", seed)
		}
	}
	for _, kind := range []string{"send 0", "lost", "take 0", "take 160", "look 0", "look 160", "double 0", "double 160", "double 46", "spoil 0", "spoil 160", "spoil 1", "spoil 161", "take of a spoilt one", "double of a spoilt one", "numbers 0"} {
		if seen[kind] < 100 {
			t.Errorf("the scripts have %q only %d times", kind, seen[kind])
		}
	}
}

// TestAlike: W2, two lines that are given the same calls answer the same, also if one was asked more in between, and others were played beside it.
func TestAlike(t *testing.T) {
	for seed := range uint64(60) {
		c := chanceOf(seed, 2)
		g := &again{}
		one, other, beside := line.New(), &line.Line{}, filled(t, 5)
		for range 150 {
			x := c.call(g, pick(c, 3, 256))
			x.again(g)
			other.Numbers()
			other.Look(c.IntN(9))
			other.Take(-c.IntN(3))
			other.Double(math.MaxInt)
			other.Spoil(1+c.IntN(9), -1, 1)
			beside.Take(beside.Send(letter(1))[0])
			if a, b := x.on(one), x.on(other); !a.is(b) {
				t.Fatalf("W2: seed %d: %s = %s and %s", seed, x, tell(a), tell(b))
			}
		}
		numbering(t, beside, 1, 2, 3, 4, 5)
	}
}
