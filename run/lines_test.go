package run_test

import (
	"fmt"
	"slices"
	"strings"
	"testing"

	"herald/api"
	"herald/run"
)

// TestLines: P18.1 and P18.2, a line of every step and of every op, as Print writes it and Parse reads it.
func TestLines(t *testing.T) {
	var lines []string
	var steps []api.Step
	for _, x := range samples() {
		reads(t, script(x.line), x.step)
		reads(t, "\n"+head+"\n  "+x.line+"\r\n\n", x.step)
		text, code := run.Print(headRules(), []api.Step{x.step})
		if text != head+x.line+"\n" || code != api.OK {
			t.Errorf("P18.2: Print(%+v) = %q, %d, want %q", x.step, text, code, x.line)
		}
		lines, steps = append(lines, x.line), append(steps, x.step)
	}
	reads(t, script(lines...), steps...)
	text, code := run.Print(headRules(), steps)
	if text != script(lines...)+"\n" || code != api.OK {
		t.Errorf("P18.2: Print of all samples = %q, %d", text, code)
	}
}

// TestWorldLine: P18.1, the world's line, and that nothing is asked of its numbers.
func TestWorldLine(t *testing.T) {
	for _, rules := range []api.Rules{{}, headRules(), {Nodes: 1, Clients: 2, Queue: 3, Ring: 4, Window: 5, Lease: 6}, {Nodes: -1, Clients: most, Queue: -most, Ring: 10, Window: 100, Lease: 0}} {
		line := fmt.Sprintf("world nodes %d clients %d queue %d ring %d window %d lease %d", rules.Nodes, rules.Clients, rules.Queue, rules.Ring, rules.Window, rules.Lease)
		for _, text := range []string{line, line + "\n", "\r\n# x\n \t" + line + " # y\r\n", strings.ReplaceAll(line, " ", "\t \r")} {
			got, steps, code, at := run.Parse(text)
			if got != rules || len(steps) > 0 || code != api.OK || at != 0 {
				t.Errorf("P18.1: Parse(%q) = %+v, %v, %d, %d", text, got, steps, code, at)
			}
		}
		text, code := run.Print(rules, nil)
		if text != line+"\n" || code != api.OK {
			t.Errorf("P18.2: Print(%+v) = %q, %d, want %q", rules, text, code, line)
		}
	}
	for _, line := range []string{
		"world", "world nodes", "world nodes 2 clients 1 queue 4 ring 16 window 2 lease", "world nodes 2 clients 1 queue 4 ring 16 window 2", "world clients 1 nodes 2 queue 4 ring 16 window 2 lease 0", "world nodes 2 clients 1 queue 4 ring 16 lease 0 window 2",
		"world 2 1 4 16 2 0", "nodes 2 clients 1 queue 4 ring 16 window 2 lease 0", "world nodes 2, clients 1", "world nodes=2", "world nodes 2 2 clients 1 queue 4 ring 16 window 2 lease 0", strings.TrimSpace(head) + " 0", strings.TrimSpace(head) + " x", strings.TrimSpace(head) + " ;", strings.TrimSpace(head) + " tick 1", "tick 1", "world ; nodes 2", "@", "x", ";", "1", "/", "\"\"",
	} {
		refuses(t, line, api.ErrScript, 1)
		refuses(t, "\n\r\n#\n"+line+"\n"+head, api.ErrScript, 4)
	}
	refuses(t, head+head, api.ErrScript, 2)
	refuses(t, head+"tick 1\n"+head, api.ErrScript, 3)
}

// pieces are the words of a line that Print wrote.
func pieces(line string) []string {
	var all []string
	for rest := line; rest != ""; {
		end := strings.IndexByte(rest+" ", ' ')
		if rest[0] == '"' {
			end = 1
			for rest[end] != '"' {
				if rest[end] == '\\' {
					end++
				}
				end++
			}
			end++
		}
		all, rest = append(all, rest[:end]), strings.TrimPrefix(rest[end:], " ")
	}
	return all
}

// everyWord has a word of every kind, and every name of a line.
func everyWord() []string {
	return strings.Fields(`0 1 -1 2147483647 / /a /kids "" "a" "/a" ; x world nodes clients queue ring window lease
		deliver drop double spoil tick crash within restart promote save calm begin end unwatch watch do leave node kids subtree make set check get look list brief counted "brief" "counted" "node" "get" "1" 01 -0 - @ a1 1a`)
}

// linesAround are a line without one of its words, with one more, and with another one in its place.
func linesAround(line string) []string {
	words := pieces(line)
	var all []string
	add := func(lists ...[]string) { all = append(all, strings.Join(slices.Concat(lists...), " ")) }
	for i := range len(words) + 1 {
		for _, w := range everyWord() {
			add(words[:i], []string{w}, words[i:])
			if i < len(words) {
				add(words[:i], []string{w}, words[i+1:])
			}
		}
		add(words[:i])
		if i < len(words) {
			add(words[:i], words[i+1:])
			add(words[i:])
			add(words[:i+1], words[i:])
		}
	}
	return all
}

// TestLinesAround: P18.1, every line of the tables cut short anywhere, with one word more, or with any other word in the place of one, is read or refused as the second reckoning does it.
func TestLinesAround(t *testing.T) {
	taken, refused := 0, 0
	lines := []string{strings.TrimSpace(head)}
	for _, x := range samples() {
		lines = append(lines, x.line)
	}
	for _, line := range lines {
		for _, around := range linesAround(line) {
			for _, text := range []string{script(around), around + "\n" + strings.TrimSpace(head)} {
				if holdsAgain(t, text) == api.OK {
					taken++
				} else {
					refused++
				}
			}
		}
	}
	if taken < 300 || refused < 10000 {
		t.Errorf("of the lines around those of the tables %d are read, %d refused", taken, refused)
	}
}

// TestTooShortTooLong: P18.1, each line without its last words, or with one more, is refused (where that is no line too).
func TestTooShortTooLong(t *testing.T) {
	for _, x := range samples() {
		words := pieces(x.line)
		for size := 1; size < len(words); size++ {
			isLine := words[0] == "do" && (words[size] == ";" || words[size] == "brief" || words[size] == "counted")
			if cut := strings.Join(words[:size], " "); !isLine {
				refuses(t, script("tick 1", cut), api.ErrScript, 3)
			}
		}
		for _, more := range []string{"1", "/a", `"a"`, ";", "x", "tick", "brief", "get /a"} {
			if isFlag := more == "brief" && x.step.Kind == api.StepDo && x.step.Ops[0].Kind == api.OpMake && x.step.Ops[0].Flags == 0; !isFlag {
				refuses(t, script(x.line+" "+more), api.ErrScript, 2)
			}
		}
	}
}

// TestFlags: P18.1, the flags of a make, in their one order, each once.
func TestFlags(t *testing.T) {
	for text, flags := range map[string]int{"": 0, " brief": 1, " counted": 2, " brief counted": 3} {
		op := api.Op{Kind: api.OpMake, Place: "/a", Flags: flags}
		reads(t, script(`do 1 make /a ""`+text), does(1, op))
		reads(t, script(`do 1 make /a ""`+text+` ; make /a ""`+text), does(1, op, op))
		reads(t, script(`do 1 get /b ; make /a ""`+text+" ; get /b"), does(1, gets("/b"), op, gets("/b")))
	}
	for _, text := range []string{"counted brief", "brief brief", "counted counted", "brief counted brief", "brief counted counted", "\"brief\"", "brief \"counted\"", "/brief", "brief x", "x", "brief 1", "1", "\"\"", "/a", "-1"} {
		refuses(t, script(`do 1 make /a "" `+text), api.ErrScript, 2)
		refuses(t, script(`do 1 get /a ; make /a "" `+text+" ; get /a"), api.ErrScript, 2)
	}
	for _, op := range []string{"get /a", "list /a", "look /a", "drop /a 1", "check /a 1", `set /a "" 1`} {
		refuses(t, script("do 1 "+op+" brief"), api.ErrScript, 2)
		refuses(t, script("do 1 "+op+" counted"), api.ErrScript, 2)
	}
}

// TestManyOps: P18.1, a do has 1 to MaxOps ops, with a `;` between each two.
func TestManyOps(t *testing.T) {
	for count := 1; count <= 12; count++ {
		line := "do 1 get /a" + strings.Repeat(" ; get /a", count-1)
		if count <= api.MaxOps {
			reads(t, script(line), does(1, slices.Repeat([]api.Op{gets("/a")}, count)...))
		} else {
			refuses(t, script(line), api.ErrScript, 2)
		}
		for _, wrong := range []string{line + " ;", strings.Replace(line, "get", "; get", 1), line + " get /a", line + " ; ; get /a", line + " ; tick 1", line + " ; do 1 get /a", line + " ; get", line + " ; /a", line + " /a", line + " 1"} {
			refuses(t, script(wrong), api.ErrScript, 2)
		}
	}
}

// TestLongTexts: P18.1, places and data of MaxRaw bytes and of one more, wherever they stand.
func TestLongTexts(t *testing.T) {
	for _, size := range []int{0, 1, api.MaxRaw - 1, api.MaxRaw, api.MaxRaw + 1, api.MaxRaw + 2, 2 * api.MaxRaw, 10000} {
		text := strings.Repeat("p", size)
		bare := "/" + strings.Repeat("p", max(size, 1)-1)
		for line, step := range map[string]api.Step{
			`watch 1 "` + text + `" kids`:               watches(1, text, api.WatchKids),
			"watch 1 " + bare + " node":                 watches(1, bare, api.WatchNode),
			`do 1 make "` + text + `" ""`:               does(1, api.Op{Kind: api.OpMake, Place: text}),
			`do 1 make /a "` + text + `" brief`:         does(1, api.Op{Kind: api.OpMake, Place: "/a", Data: text, Flags: 1}),
			`do 1 get /a ; set ` + bare + ` "" 1`:       does(1, gets("/a"), api.Op{Kind: api.OpSet, Place: bare, Version: 1}),
			`do 1 set /a "` + text + `" 2 ; get /`:      does(1, api.Op{Kind: api.OpSet, Place: "/a", Data: text, Version: 2}, gets("/")),
			"do 1 drop " + bare + " 1":                  does(1, api.Op{Kind: api.OpDrop, Place: bare, Version: 1}),
			`do 1 check "` + text + `" 1`:               does(1, api.Op{Kind: api.OpCheck, Place: text, Version: 1}),
			"do 1 get " + bare:                          does(1, gets(bare)),
			`do 1 look "` + text + `"`:                  does(1, api.Op{Kind: api.OpLook, Place: text}),
			"do 1 get / ; get / ; get / ; list " + bare: does(1, gets("/"), gets("/"), gets("/"), api.Op{Kind: api.OpList, Place: bare}),
		} {
			if size <= api.MaxRaw {
				reads(t, script(line), step)
			} else {
				refuses(t, script("", line), api.ErrScript, 3)
			}
		}
	}
}

// TestLineEnds: P18.1, a line ends with the byte 10, also behind the byte 13, or with the text; lines without words say nothing, but count.
func TestLineEnds(t *testing.T) {
	first := strings.TrimSpace(head)
	tick, calm := stepOf(api.StepTick, 1), stepOf(api.StepCalm, 2)
	for _, end := range []string{"\n", "\r\n", " \t\r\n", "\n\n", "\r\n\n# x\n \n"} {
		for _, ahead := range []string{"", "\n", "\r\n\t\n", "#\n", "\r"} {
			text := ahead + first + end + "tick 1" + end + "calm 2"
			for _, last := range []string{"", end, " ", "\r", "\n\n\n", "#"} {
				reads(t, text+last, tick, calm)
			}
			refuses(t, text+end+"x", api.ErrScript, 1+strings.Count(text+end, "\n"))
		}
	}
	for _, none := range []string{"\v", "\f", "\x00", "\u0085", "\u2028", "\r\r"} {
		text := script("tick 1" + none + "calm 2")
		refuses(t, text, api.ErrScript, 2)
	}
	reads(t, head)
	reads(t, first)
	for _, text := range []string{"", " ", "\n", "\r\n", "\t \r", "\n\n\n", "# nothing", "#\n#\n", "\r\n # a\n\n", strings.Repeat("\n", api.MaxText), strings.Repeat(" ", api.MaxText), "#" + strings.Repeat("x", api.MaxText-1)} {
		refuses(t, text, api.ErrScript, 0)
	}
}

// TestWhichLine: P18.1, the first line that offends is told, whatever stands behind it.
func TestWhichLine(t *testing.T) {
	for at := 1; at <= 60; at++ {
		lines := slices.Repeat([]string{"tick 1", "# x", ""}, 20)
		lines[0] = strings.TrimSpace(head)
		lines[at-1] = "tick"
		refuses(t, strings.Join(lines, "\n"), api.ErrScript, at)
		for _, later := range []string{"@", "world", "\"", strings.Repeat("tick 1\n", 500)} {
			refuses(t, strings.Join(append(slices.Clone(lines), later), "\n"), api.ErrScript, at)
		}
	}
	refuses(t, "@\n"+head, api.ErrScript, 1)
	refuses(t, "\n\x00", api.ErrScript, 2)
	refuses(t, "# x\n\n \"", api.ErrScript, 3)
}

// TestManySteps: P18.1, MaxSteps steps and one more, which offends or does not; lines without words are no steps.
func TestManySteps(t *testing.T) {
	tick := stepOf(api.StepTick, 1)
	full := head + strings.Repeat("tick 1\n", api.MaxSteps)
	all := slices.Repeat([]api.Step{tick}, api.MaxSteps)
	reads(t, full, all...)
	reads(t, full+"\n# more\n \t\r\n", all...)
	reads(t, head+strings.Repeat("\n# tick\ntick 1\n", api.MaxSteps), all...)
	for _, more := range samples() {
		refuses(t, full+more.line, api.ErrLong, api.MaxSteps+2)
		refuses(t, full+"\n#\n"+more.line+"\n@", api.ErrLong, api.MaxSteps+4)
		refuses(t, full+more.line+" @", api.ErrScript, api.MaxSteps+2)
	}
	for _, wrong := range []string{"@", "tick", "tick 1 2", "x", "world nodes 1", strings.TrimSpace(head), "do 1 get \"", "tick 1 ;"} {
		refuses(t, full+wrong, api.ErrScript, api.MaxSteps+2)
		refuses(t, full+"\n\n"+wrong+"\ntick 1", api.ErrScript, api.MaxSteps+4)
		refuses(t, full+"tick 1\n"+wrong, api.ErrLong, api.MaxSteps+2)
		refuses(t, strings.Replace(full, "tick 1\n", wrong+"\n", 1)+"tick 1\ntick 1", api.ErrScript, 2)
	}
	refuses(t, head+strings.Repeat("tick 1\n", 3*api.MaxSteps), api.ErrLong, api.MaxSteps+2)
}

// TestLongScripts: P18.1, a script of MaxText bytes, and of one more, which is found ahead of all else.
func TestLongScripts(t *testing.T) {
	for _, fill := range []string{" ", "\n", "#"} {
		filled := func(text string, size int) string { return text + strings.Repeat(fill, size-len(text)) }
		reads(t, filled(script("tick 1"), api.MaxText), stepOf(api.StepTick, 1))
		for _, text := range []string{"", "@", "x", head, script("tick"), head + strings.Repeat("tick 1\n", 500)} {
			for _, size := range []int{api.MaxText + 1, api.MaxText + 2, 3 * api.MaxText} {
				refuses(t, filled(text, size), api.ErrLong, 0)
			}
		}
		refuses(t, filled("@", api.MaxText), api.ErrScript, 1)
		refuses(t, filled(script("tick\n"), api.MaxText), api.ErrScript, 2)
	}
	refuses(t, strings.Repeat("\n", api.MaxText-1)+"x", api.ErrScript, api.MaxText)
}

// TestNumbersMeanNothing: P18.1, whether a number means something is not looked at.
func TestNumbersMeanNothing(t *testing.T) {
	for _, n := range []int{-most, -1, 0, 1, 65, 256, most} {
		for _, x := range samples() {
			words, step := pieces(x.line), x.step
			words[1], step.A = fmt.Sprint(n), n
			reads(t, script(strings.Join(words, " ")), step)
		}
	}
}
