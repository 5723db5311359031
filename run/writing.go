package run

import (
	"slices"
	"strconv"
	"strings"

	"herald/api"
)

const hexDigits = "0123456789abcdef"

// worldText is the first line of a script.
func worldText(rules api.Rules) string {
	words := []string{firstWord}
	for i, number := range numbersOf(&rules) {
		words = append(words, ruleNames[i], numberText(*number))
	}
	return strings.Join(words, " ")
}

// stepText is the line of a step. Whatever is written is taken out of it, so that nothing may be left in the end.
func stepText(s api.Step) string {
	line := shapeOf(taken(&s.Kind), stepShapes())
	words := []string{line.name}
	for _, p := range line.parts {
		switch p {
		case partA:
			words = append(words, numberText(taken(&s.A)))
		case partB:
			words = append(words, numberText(taken(&s.B)))
		case partC:
			words = append(words, numberText(taken(&s.C)))
		case partPlace:
			words = append(words, placeText(short(taken(&s.Place))))
		case partWatch:
			words = append(words, watchText(taken(&s.B)))
		case partOps:
			words = append(words, opsText(taken(&s.Ops)...))
		}
	}
	if s.A != 0 || s.B != 0 || s.C != 0 || s.Place != "" || len(s.Ops) > 0 {
		giveUp()
	}
	return strings.Join(words, " ")
}

// opsText are the ops of a request.
func opsText(ops ...api.Op) string {
	if len(ops) == 0 || len(ops) > api.MaxOps {
		giveUp()
	}
	texts := make([]string, 0, len(ops))
	for _, o := range ops {
		texts = append(texts, opText(o))
	}
	return strings.Join(texts, " ; ")
}

// opText is one op, written as a step is.
func opText(o api.Op) string {
	line := shapeOf(taken(&o.Kind), opShapes())
	words := []string{line.name}
	for _, p := range line.parts {
		switch p {
		case partPlace:
			words = append(words, placeText(short(taken(&o.Place))))
		case partData:
			words = append(words, quoted(short(taken(&o.Data))))
		case partVersion:
			words = append(words, numberText(taken(&o.Version)))
		case partFlags:
			words = append(words, flagTexts(taken(&o.Flags))...)
		}
	}
	if o != (api.Op{}) {
		giveUp()
	}
	return strings.Join(words, " ")
}

func shapeOf(kind int, shapes []shape) shape {
	at := slices.IndexFunc(shapes, func(s shape) bool { return s.kind == kind })
	if at < 0 {
		giveUp()
	}
	return shapes[at]
}

// taken is what a field holds; it is zero then.
func taken[T any](field *T) T {
	var none T
	value := *field
	*field = none
	return value
}

func numberText(number int) string {
	if number < -api.MaxNumber || number > api.MaxNumber {
		giveUp()
	}
	return strconv.Itoa(number)
}

func watchText(kind int) string {
	if kind < api.WatchNode || kind > api.WatchSubtree {
		giveUp()
	}
	return watchNames[kind]
}

func flagTexts(flags int) []string {
	var texts []string
	for _, row := range flagNames {
		if flags&row.flag != 0 {
			texts = append(texts, row.name)
			flags -= row.flag
		}
	}
	if flags != 0 {
		giveUp()
	}
	return texts
}

// placeText is a place, bare if it can be.
func placeText(place string) string {
	for i := range len(place) {
		if !isOfPlace(place[i]) {
			return quoted(place)
		}
	}
	if !strings.HasPrefix(place, "/") {
		return quoted(place)
	}
	return place
}

// quoted is a text as a quoted word.
func quoted(text string) string {
	word := []byte{'"'}
	for i := range len(text) {
		switch c := text[i]; {
		case c == '"' || c == '\\':
			word = append(word, '\\', c)
		case c == '\n':
			word = append(word, '\\', 'n')
		case c < ' ' || c >= 127:
			word = append(word, '\\', 'x', hexDigits[c>>4], hexDigits[c&15])
		default:
			word = append(word, c)
		}
	}
	return string(append(word, '"'))
}
