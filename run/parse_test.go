package run_test

import (
	"strings"
	"testing"

	"herald/api"
	"herald/run"
)

// TestParseExamples: P18.1, the chapter's examples.
func TestParseExamples(t *testing.T) {
	refuses(t, "", api.ErrScript, 0)
	refuses(t, "# nothing", api.ErrScript, 0)
	reads(t, "world nodes 2 clients 1 queue 4 ring 16 window 2 lease 0")
	refuses(t, "tick 1", api.ErrScript, 1)
	for _, line := range []string{"tick1", "tick 01", "tick 1 2", "tick", "do 1", "do 1 get a"} {
		refuses(t, script(line), api.ErrScript, 2)
	}
}

// eachText goes through all texts of so many of these bytes.
func eachText(bytes string, size int, visit func(text string)) {
	if size == 0 {
		visit("")
		return
	}
	eachText(bytes, size-1, func(text string) {
		for i := range len(bytes) {
			visit(text + bytes[i:i+1])
		}
	})
}

// TestShortTexts: P18.1, all short texts of bytes that mean something, in the place of words of each kind, against the second reckoning.
func TestShortTexts(t *testing.T) {
	t.Parallel()
	const bytes = "01-ax/\"\\;# \n"
	taken := 0
	for _, x := range []struct {
		ahead, behind string
		size          int
	}{
		{head, "", 4}, {head + "tick ", "", 4}, {head + "tick", "1", 3}, {head + "do 1 get ", "", 4}, {head + "do 1 get /", "", 3}, {head + "do 1 get \"", "", 4}, {head + "do 1 get \"", "\"", 4}, {head + "do 1 make /a", "", 4},
		{head + "watch 1", "kids", 3}, {head + "do 1 make /a\"\"", "brief", 3}, {head + "do 1 get /a", "get /b", 3}, {head + "do 1 set /a \"\"", "1", 3}, {"", head, 3}, {strings.TrimSpace(head), "tick 1", 3}, {"world", head[5:], 3}, {head[:12], head[12:], 3},
	} {
		for size := range x.size + 1 {
			eachText(bytes, size, func(text string) {
				if holdsAgain(t, x.ahead+text+x.behind) == api.OK {
					taken++
				}
			})
			if t.Failed() {
				return
			}
		}
	}
	if taken < 2000 {
		t.Errorf("only %d of the short texts are read", taken)
	}
}

// TestEveryByte: P18.1, each sample's line with any byte put in anywhere, in the place of another one, or without one, against the second reckoning.
func TestEveryByte(t *testing.T) {
	t.Parallel()
	taken := 0
	for _, x := range samples() {
		for at := range len(x.line) + 1 {
			for c := range 256 {
				one := string([]byte{byte(c)})
				if holdsAgain(t, script(x.line[:at]+one+x.line[at:])) == api.OK {
					taken++
				}
				if at < len(x.line) {
					holdsAgain(t, script("tick 1", x.line[:at]+one+x.line[at+1:]))
				}
			}
			if at < len(x.line) {
				holdsAgain(t, script(x.line[:at]+x.line[at+1:]))
				holdsAgain(t, script(x.line[:at]))
				holdsAgain(t, script(x.line[at:]))
			}
		}
	}
	if taken < 2000 {
		t.Errorf("only %d of the changed lines are read", taken)
	}
}

// TestFewWords: P18.1, all lines of up to three words, against the second reckoning.
func TestFewWords(t *testing.T) {
	t.Parallel()
	words := everyWord()
	for _, a := range words {
		holdsAgain(t, script(a))
		for _, b := range words {
			holdsAgain(t, script(a+" "+b))
			holdsAgain(t, script(a+b))
			for _, c := range words {
				holdsAgain(t, script(a+" "+b+" "+c))
			}
		}
	}
}

// loose is a word's text, and blanks behind it that it needs, or more.
func (c chance) loose(word string, isNeeded bool) string {
	if isNeeded || c.IntN(3) > 0 {
		return word + pick(c, " ", " ", "\t", "\r", "  ", " \t ")
	}
	return word
}

// laidOut is a line that Print wrote, laid out in another way.
func (c chance) laidOut(line string) string {
	text := pick(c, "", "", " ", "\t", "\r")
	for _, w := range pieces(line) {
		isQuoted := w[0] == '"'
		if isQuoted {
			w = c.requoted(w)
		}
		if w[0] == '/' && c.IntN(4) == 0 {
			w, isQuoted = `"`+w+`"`, true
		}
		text += c.loose(w, !isQuoted && w != ";")
	}
	return text + pick(c, "", "", "#", "# more", "#\"", " #;", "\r")
}

// requoted is a quoted word in which bytes stand in another way.
func (c chance) requoted(word string) string {
	text := `"`
	for i := 1; i < len(word)-1; i++ {
		switch ch := word[i]; {
		case ch == '\\' && word[i+1] == 'x':
			text += pick(c, word[i:i+4], word[i:i+2]+strings.ToUpper(word[i+2:i+4]))
			i += 3
		case ch == '\\':
			text += map[byte]string{'"': pick(c, `\"`, `\x22`), '\\': pick(c, `\\`, `\x5c`, `\x5C`), 'n': pick(c, `\n`, `\x0a`, `\x0A`)}[word[i+1]]
			i++
		case c.IntN(20) == 0:
			text += `\x` + string("0123456789abcdef"[ch>>4]) + string("0123456789ABCDEF"[ch&15])
		default:
			text += string(rune(ch))
		}
	}
	return text + `"`
}

// TestLaidOut: P18.1 and P18.3, however a script's words are laid out, Parse reads the same; Print writes that in its one form.
func TestLaidOut(t *testing.T) {
	t.Parallel()
	for seed := range uint64(400) {
		c := chanceOf(seed, 181)
		rules, steps := c.rules(), c.steps(c.IntN(30))
		text, code := printsAgain(t, rules, steps)
		if code != api.OK {
			continue
		}
		loose := ""
		for _, line := range strings.Split(strings.TrimSuffix(text, "\n"), "\n") {
			loose += pick(c, "", "", "\n", "# x\n", " \r\n") + c.laidOut(line) + "\n"
		}
		if len(loose) > api.MaxText {
			continue
		}
		got, gotSteps, code, line := run.Parse(loose)
		if got != rules || !same(gotSteps, steps) || code != api.OK || line != 0 {
			t.Fatalf("P18.1: seed %d: Parse(%s) = %+v, %s, %d, %d, want %+v, %s", seed, short(loose), got, tell(gotSteps), code, line, rules, tell(steps))
		}
		if again, code := run.Print(got, gotSteps); again != text || code != api.OK {
			t.Fatalf("P18.3: seed %d: Print of what Parse read = %s, %d, want %s", seed, short(again), code, short(text))
		}
		holdsAgain(t, c.damaged(loose))
	}
}

// damaged is a text with a few bytes changed.
func (c chance) damaged(text string) string {
	data := []byte(text)
	for range pick(c, 1, 1, 1, 2, 5) {
		if len(data) == 0 {
			break
		}
		at := c.IntN(len(data))
		switch c.IntN(4) {
		case 0:
			data = append(data[:at], data[at+1:]...)
		case 1:
			data[at] = byte(c.IntN(256))
		case 2:
			data[at] = pick[byte](c, ' ', '\n', '"', '\\', '#', ';', '0', '-', '/', 'a')
		default:
			data = append(data[:at], append([]byte(pick(c, " ", "\n", "\"", "#", ";", "0", "-", "/", "a", "\x00")), data[at:]...)...)
		}
	}
	return string(data)
}

// TestDamaged: P18.1, scripts in which a few bytes are changed, against the second reckoning.
func TestDamaged(t *testing.T) {
	t.Parallel()
	taken := 0
	for seed := range uint64(3000) {
		c := chanceOf(seed, 182)
		text, _ := run.Print(c.rules(), c.steps(c.IntN(5)))
		for range 3 {
			if text = c.damaged(text); holdsAgain(t, text) == api.OK {
				taken++
			}
		}
	}
	if taken < 250 {
		t.Errorf("only %d of the damaged scripts are read", taken)
	}
}
