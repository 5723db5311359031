package run

import (
	"strconv"
	"strings"

	"herald/api"
)

// wordKind is what a word of a line may be.
type wordKind int

const (
	noWord wordKind = iota // the line is at its end
	nameWord
	numberWord
	placeWord // a bare place
	quotedWord
	semicolon
)

type word struct {
	kind   wordKind
	text   string // a name, a bare place, or what a quoted word stands for
	number int
}

// reader goes through a line from word to word.
type reader struct {
	line string
	next int  // where in the line it goes on
	word word // at which it is now
}

// readerOf is a reader at a line's first word.
func readerOf(line string) *reader {
	r := &reader{line: line}
	r.advance()
	return r
}

// giveUp ends the reading or writing of a script: the faces recover.
func giveUp() { panic(api.ErrScript) }

func (r *reader) isAtEnd() bool { return r.word.kind == noWord }

// take is the word at which the reader is, if it is of that kind; the reader goes on.
func (r *reader) take(kind wordKind) word {
	w := r.word
	if w.kind != kind {
		giveUp()
	}
	r.advance()
	return w
}

// advance goes on to the next word.
func (r *reader) advance() {
	r.runOf(isBlank)
	if r.next == len(r.line) || r.line[r.next] == '#' {
		r.word = word{kind: noWord}
		return
	}
	switch c := r.line[r.next]; {
	case isSmall(c):
		r.word = r.readName()
	case isDigit(c) || c == '-':
		r.word = r.readNumber()
	case c == '/':
		r.word = word{kind: placeWord, text: strings.Clone(r.runOf(isOfPlace))}
	case c == '"':
		r.word = r.readQuoted()
	case c == ';':
		r.next++
		r.word = word{kind: semicolon}
	default:
		giveUp()
	}
}

func (r *reader) readName() word {
	text := r.runOf(isSmall)
	if r.isNext(isDigit) {
		giveUp()
	}
	return word{kind: nameWord, text: text}
}

func (r *reader) readNumber() word {
	sign := 1
	if r.line[r.next] == '-' {
		r.next++
		sign = -1
	}
	digits := r.runOf(isDigit)
	value, err := strconv.Atoi(digits)
	hasIdleZero := strings.HasPrefix(digits, "0") && (len(digits) > 1 || sign < 0)
	if err != nil || value > api.MaxNumber || hasIdleZero || r.isNext(isLetter) {
		giveUp()
	}
	return word{kind: numberWord, number: sign * value}
}

func (r *reader) readQuoted() word {
	var text strings.Builder
	r.next++
	for {
		switch c := r.nextByte(); {
		case c == '"':
			return word{kind: quotedWord, text: text.String()}
		case c == '\\':
			text.WriteByte(r.escaped())
		case isPlain(c):
			text.WriteByte(c)
		default:
			giveUp()
		}
	}
}

// escaped is the byte that is meant by what stands behind a `\`.
func (r *reader) escaped() byte {
	c := r.nextByte()
	switch c {
	case '"', '\\':
	case 'n':
		c = '\n'
	case 'x':
		high := r.hexDigit()
		c = high<<4 | r.hexDigit()
	default:
		giveUp()
	}
	return c
}

func (r *reader) hexDigit() byte {
	switch c := r.nextByte(); {
	case isDigit(c):
		return c - '0'
	case 'a' <= c && c <= 'f':
		return c - 'a' + 10
	case 'A' <= c && c <= 'F':
		return c - 'A' + 10
	}
	giveUp()
	return 0
}

// runOf is the longest run of such bytes; the reader is behind it then.
func (r *reader) runOf(belongs func(c byte) bool) string {
	from := r.next
	for r.isNext(belongs) {
		r.next++
	}
	return r.line[from:r.next]
}

func (r *reader) isNext(belongs func(c byte) bool) bool {
	return r.next < len(r.line) && belongs(r.line[r.next])
}

// nextByte goes behind the next byte, which must be there.
func (r *reader) nextByte() byte {
	if r.next == len(r.line) {
		giveUp()
	}
	r.next++
	return r.line[r.next-1]
}

func isBlank(c byte) bool { return c == ' ' || c == '\t' || c == '\r' }

func isSmall(c byte) bool { return 'a' <= c && c <= 'z' }

func isLetter(c byte) bool { return isSmall(c) || 'A' <= c && c <= 'Z' }

func isDigit(c byte) bool { return '0' <= c && c <= '9' }

// isOfPlace tells whether a byte may stand in a bare place.
func isOfPlace(c byte) bool {
	return isLetter(c) || isDigit(c) || c == '/' || c == '-' || c == '_' || c == '.'
}

// isPlain tells whether a byte may stand as it is in a quoted word.
func isPlain(c byte) bool { return c >= ' ' && c != 127 && c != '"' && c != '\\' }
