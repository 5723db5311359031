package run_test

import (
	"slices"
	"strings"
	"testing"

	"herald/api"
	"herald/run"
)

// writes holds that Print writes a step as that line.
func writes(t *testing.T, s api.Step, line string) {
	t.Helper()
	if text, code := run.Print(headRules(), []api.Step{s}); text != head+line+"\n" || code != api.OK {
		t.Errorf("P18.2: Print(%s) = %s, %d, want %s", tell(s), short(text), code, short(line))
	}
}

// refusesStep holds that Print refuses a step, wherever it stands.
func refusesStep(t *testing.T, s api.Step) {
	t.Helper()
	tick := stepOf(api.StepTick, 1)
	for _, steps := range [][]api.Step{{s}, {tick, s}, {s, tick}, {tick, s, s}} {
		if text, code := run.Print(headRules(), steps); text != "" || code != api.ErrScript {
			t.Errorf("P18.2: Print(%s) = %s, %d, want ErrScript", tell(steps), short(text), code)
		}
	}
}

// TestPrintExamples: P18.2, the chapter's examples.
func TestPrintExamples(t *testing.T) {
	text, code := run.Print(api.Rules{}, []api.Step{does(1, api.Op{Kind: api.OpMake, Place: "/a", Data: "x\n", Flags: api.FlagBrief})})
	is(t, "P18.2: Print of an example", text, "world nodes 0 clients 0 queue 0 ring 0 window 0 lease 0\ndo 1 make /a \"x\\n\" brief\n")
	is(t, "P18.2: Print of an example", code, api.OK)
	text, code = run.Print(api.Rules{}, []api.Step{{Kind: api.StepTick, A: 1, B: 2}})
	is(t, "P18.2: Print of an example", text, "")
	is(t, "P18.2: Print of an example", code, api.ErrScript)
}

// TestKinds: P18.2, kinds that there are not; StepLeave is one of drills alone.
func TestKinds(t *testing.T) {
	for _, kind := range append(ends(), -most, -2, -1, 0, api.StepLeave, 18, 100, most) {
		refusesStep(t, api.Step{Kind: kind, A: 1})
		refusesStep(t, api.Step{Kind: kind})
		refusesStep(t, api.Step{Kind: kind, A: 1, Ops: []api.Op{gets("/")}})
	}
	for _, kind := range append(ends(), -most, -1, 0, 8, 9, 100, most) {
		refusesStep(t, does(1, api.Op{Kind: kind, Place: "/a"}))
		refusesStep(t, does(1, api.Op{Kind: kind}))
		refusesStep(t, does(1, gets("/"), api.Op{Kind: kind}, gets("/")))
		refusesStep(t, does(1, gets("/"), gets("/"), gets("/"), api.Op{Kind: kind}))
	}
	for _, kind := range append(ends(), -most, -1, 0, 4, 5, most) {
		refusesStep(t, watches(1, "/a", kind))
	}
}

// TestPrintNumbers: P18.2, numbers at their edges and beyond them, wherever they stand.
func TestPrintNumbers(t *testing.T) {
	for _, n := range []int{-most, -most + 1, -10, -1, 0, 1, 9, 10, most - 1, most} {
		for _, x := range samples() {
			s := x.step
			s.A = n
			printsAgain(t, headRules(), []api.Step{s})
		}
		writes(t, stepOf(api.StepSpoil, n, n, n), stepLineAgain(stepOf(api.StepSpoil, n, n, n)))
		writes(t, does(1, api.Op{Kind: api.OpSet, Version: n}), stepLineAgain(does(1, api.Op{Kind: api.OpSet, Version: n})))
		writes(t, does(1, api.Op{Kind: api.OpDrop, Version: n}), stepLineAgain(does(1, api.Op{Kind: api.OpDrop, Version: n})))
	}
	for _, n := range ends() {
		for _, x := range samples() {
			s := x.step
			s.A = n
			refusesStep(t, s)
			s = x.step
			s.B = n
			refusesStep(t, s)
			s = x.step
			s.C = n
			refusesStep(t, s)
		}
		for kind := range 9 {
			refusesStep(t, does(1, api.Op{Kind: kind, Version: n}))
			refusesStep(t, does(1, api.Op{Kind: kind, Flags: n}))
		}
		for _, rules := range []api.Rules{{Nodes: n}, {Clients: n}, {Queue: n}, {Ring: n}, {Window: n}, {Lease: n}} {
			for _, steps := range [][]api.Step{nil, {stepOf(api.StepTick, 1)}} {
				if text, code := run.Print(rules, steps); text != "" || code != api.ErrScript {
					t.Errorf("P18.2: Print(%+v) = %q, %d, want ErrScript", rules, text, code)
				}
			}
		}
	}
}

// TestWhatALineHasNot: P18.2, whatever is not zero and has no word in the line is refused.
func TestWhatALineHasNot(t *testing.T) {
	for kind := 1; kind <= 16; kind++ {
		for a := range 2 {
			for _, b := range []int{0, 1, -1, 3} {
				for _, c := range []int{0, 1, -1} {
					for _, place := range []string{"", "/", "x"} {
						for _, ops := range [][]api.Op{nil, {}, {gets("/")}, {{}}} {
							printsAgain(t, headRules(), []api.Step{{Kind: kind, A: a, B: b, C: c, Place: place, Ops: ops}})
						}
					}
				}
			}
		}
	}
	for kind := range 9 {
		for _, place := range []string{"", "/a", " "} {
			for _, data := range []string{"", "x"} {
				for _, version := range []int{-1, 0, 1} {
					for _, flags := range []int{-2, -1, 0, 1, 2, 3, 4, 5, 7, 8} {
						o := api.Op{Kind: kind, Place: place, Data: data, Version: version, Flags: flags}
						printsAgain(t, headRules(), []api.Step{does(1, o)})
						printsAgain(t, headRules(), []api.Step{does(1, gets("/"), o)})
					}
				}
			}
		}
	}
	refusesStep(t, stepOf(api.StepTick, 1, 2))
	refusesStep(t, stepOf(api.StepWithin, 1, 2, 3))
	refusesStep(t, api.Step{Kind: api.StepWatch, B: 1, C: 1})
	refusesStep(t, api.Step{Kind: api.StepBegin, Place: "/"})
	refusesStep(t, api.Step{Kind: api.StepEnd, Ops: []api.Op{{}}})
	refusesStep(t, api.Step{Kind: api.StepDo, B: 1, Ops: []api.Op{gets("/")}})
	refusesStep(t, api.Step{Kind: api.StepDo, C: 1, Ops: []api.Op{gets("/")}})
	refusesStep(t, api.Step{Kind: api.StepDo, Place: "/", Ops: []api.Op{gets("/")}})
	writes(t, api.Step{Kind: api.StepTick, Ops: []api.Op{}}, "tick 0") // W5
}

// TestPrintOps: P18.2, a do has 1 to MaxOps ops.
func TestPrintOps(t *testing.T) {
	refusesStep(t, does(1))
	refusesStep(t, api.Step{Kind: api.StepDo, A: 1, Ops: []api.Op{}})
	for count := 1; count <= 12; count++ {
		s := does(1, slices.Repeat([]api.Op{gets("/a")}, count)...)
		if count <= api.MaxOps {
			writes(t, s, "do 1 get /a"+strings.Repeat(" ; get /a", count-1))
		} else {
			refusesStep(t, s)
		}
	}
}

// TestPrintLong: P18.2, places and data of MaxRaw bytes and of one more.
func TestPrintLong(t *testing.T) {
	for _, size := range []int{api.MaxRaw - 1, api.MaxRaw, api.MaxRaw + 1, api.MaxRaw + 2, 10000, 100000} {
		for _, text := range []string{strings.Repeat("/", size), strings.Repeat("p", size), strings.Repeat("\x00", size), strings.Repeat("\\", size)} {
			for _, s := range []api.Step{
				watches(1, text, 1), does(1, gets(text)), does(1, api.Op{Kind: api.OpMake, Data: text}), does(1, api.Op{Kind: api.OpMake, Place: text}), does(1, api.Op{Kind: api.OpSet, Place: "/", Data: text}), does(1, api.Op{Kind: api.OpSet, Place: text}),
				does(1, api.Op{Kind: api.OpDrop, Place: text}), does(1, api.Op{Kind: api.OpCheck, Place: text}), does(1, gets("/"), api.Op{Kind: api.OpLook, Place: text}), does(1, api.Op{Kind: api.OpList, Place: text}, gets("/")),
			} {
				if size <= api.MaxRaw {
					writes(t, s, stepLineAgain(s))
				} else {
					refusesStep(t, s)
				}
			}
		}
	}
}

// TestPrintTexts: P18.2, texts with every byte; places that are bare, and that are not.
func TestPrintTexts(t *testing.T) {
	for text, want := range map[string]string{
		"": `""`, "a": `"a"`, "/a": `"/a"`, " ": `" "`, `"`: `"\""`, `\`: `"\\"`, "\n": `"\n"`, "\t": `"\x09"`, "\r": `"\x0d"`, "\x00": `"\x00"`, "\x1f": `"\x1f"`, "~": `"~"`, "\x7f": `"\x7f"`, "\x80": `"\x80"`, "\xff": `"\xff"`, "\xab\xcd": `"\xab\xcd"`, "é": `"\xc3\xa9"`, `\n`: `"\\n"`, "#;'": `"#;'"`, `\"`: `"\\\""`, "x\n\"\\\x00\x7f\xe9": `"x\n\"\\\x00\x7f\xe9"`,
	} {
		writes(t, does(1, api.Op{Kind: api.OpMake, Place: "/a", Data: text}), "do 1 make /a "+want)
		writes(t, does(1, api.Op{Kind: api.OpSet, Place: "/a", Data: text}), "do 1 set /a "+want+" 0")
		if !strings.HasPrefix(text, "/") {
			writes(t, watches(1, text, 2), "watch 1 "+want+" kids")
			writes(t, does(1, gets(text)), "do 1 get "+want)
		}
	}
	for c := range 256 {
		one := string([]byte{byte(c)})
		for _, text := range []string{one, "/" + one, one + "/", "/a" + one + "b", "a" + one + "/b", one + one} {
			s := does(1, api.Op{Kind: api.OpMake, Place: text, Data: text})
			writes(t, s, "do 1 make "+placeAgain(text)+" "+quotedAgain(text))
			writes(t, watches(7, text, 3), "watch 7 "+placeAgain(text)+" subtree")
		}
	}
	for _, place := range []string{"/", "//", "/a", "/a/", "/A-Z_.09", "/-1", "/.."} {
		writes(t, watches(1, place, 1), "watch 1 "+place+" node")
	}
	for _, place := range []string{"", "a", "a/b", "./a", " /a", "/a ", "/a b", "/a\n", "\n/a", "/a\"", "/a;", "/a#", "/é", "-/a", "1", "/a\r", "/a\x00"} {
		writes(t, watches(1, place, 1), "watch 1 "+quotedAgain(place)+" node")
	}
}

// TestPrintErrors: P18.2, its errors in their order: too many steps, something that no script gives, a text that is too long.
func TestPrintErrors(t *testing.T) {
	refused := func(what string, rules api.Rules, steps []api.Step, want api.Errno) {
		t.Helper()
		if text, code := run.Print(rules, steps); text != "" || code != want {
			t.Errorf("P18.2: Print of %s = %s, %d, want %d", what, short(text), code, want)
		}
	}
	wrongRules, wrong := api.Rules{Nodes: most + 1}, api.Step{}
	many := slices.Repeat([]api.Step{stepOf(api.StepTick, 1)}, api.MaxSteps+1)
	refused("too many steps", headRules(), many, api.ErrLong)
	refused("too many steps and wrong rules", wrongRules, many, api.ErrLong)
	refused("too many steps, the first of them wrong", headRules(), append([]api.Step{wrong}, many...), api.ErrLong)
	refused("too many wrong steps", headRules(), make([]api.Step, api.MaxSteps+1), api.ErrLong)
	refused("a great many steps", headRules(), make([]api.Step, 100000), api.ErrLong)
	if text, code := run.Print(headRules(), many[1:]); text != head+strings.Repeat("tick 1\n", api.MaxSteps) || code != api.OK {
		t.Errorf("P18.2: Print of MaxSteps steps = %s, %d", short(text), code)
	}
	refused("MaxSteps steps, the last one wrong", headRules(), append(slices.Clone(many[2:]), wrong), api.ErrScript)

	long := slices.Repeat([]api.Step{does(1, slices.Repeat([]api.Op{{Kind: api.OpMake, Data: strings.Repeat("\x00", api.MaxRaw)}}, 4)...)}, api.MaxSteps)
	refused("a long text", headRules(), long, api.ErrLong)
	refused("a long text with wrong rules", wrongRules, long, api.ErrScript)
	refused("a long text with a wrong step in the end", headRules(), append(slices.Clone(long[1:]), wrong), api.ErrScript)
	refused("a long text with a wrong step at first", headRules(), append([]api.Step{wrong}, long[1:]...), api.ErrScript)
	refused("a long text with a wrong op in the end", headRules(), append(slices.Clone(long[1:]), does(1, gets("/"), api.Op{})), api.ErrScript)
}

// TestPrintSize: P18.2, a text of MaxText bytes, and of one more.
func TestPrintSize(t *testing.T) {
	const around = len("do 1 get \"\"\n")
	var steps []api.Step
	left := api.MaxText - len(head)
	for left >= 2*around+api.MaxRaw {
		steps, left = append(steps, does(1, gets(strings.Repeat("p", api.MaxRaw)))), left-around-api.MaxRaw
	}
	for more := -1; more <= 2; more++ {
		last := does(1, gets(strings.Repeat("p", left-around+more)))
		text, code := printsAgain(t, headRules(), append(slices.Clone(steps), last))
		if more <= 0 && (code != api.OK || len(text) != api.MaxText+more) || more > 0 && (code != api.ErrLong || text != "") {
			t.Errorf("P18.2: Print of a text of %d bytes = %d bytes, %d", api.MaxText+more, len(text), code)
		}
	}
}

// TestPrintByChance: P18.2, steps in which some fields have been changed, against the second reckoning.
func TestPrintByChance(t *testing.T) {
	t.Parallel()
	counts := map[api.Errno]int{}
	for seed := range uint64(4000) {
		c := chanceOf(seed, 183)
		rules, steps := c.rules(), c.steps(pick(c, 0, 1, 1, 2, 3, 10, 20))
		if c.IntN(6) == 0 {
			long := does(1, api.Op{Kind: api.OpMake, Data: strings.Repeat("\x00", api.MaxRaw)})
			steps = append(slices.Repeat([]api.Step{long}, 61+c.IntN(4)), steps...)
		}
		for range c.IntN(2) {
			if len(steps) > 0 {
				c.twist(&steps[c.IntN(len(steps))])
			}
		}
		_, code := printsAgain(t, rules, steps)
		counts[code]++
	}
	if counts[api.OK] < 1000 || counts[api.ErrScript] < 500 || counts[api.ErrLong] < 200 {
		t.Errorf("Print answers %v", counts)
	}
}

// twist changes one field of a step.
func (c chance) twist(s *api.Step) {
	n := pick(c, c.number(), pick(c, ends()...), c.IntN(20))
	text := pick(c, c.text(), c.place(), strings.Repeat("p", api.MaxRaw+1))
	switch c.IntN(10) {
	case 0:
		s.Kind = pick(c, n, c.IntN(19))
	case 1:
		s.A = n
	case 2:
		s.B = n
	case 3:
		s.C = n
	case 4:
		s.Place = text
	case 5:
		s.Ops = nil
	case 6:
		s.Ops = append(s.Ops, c.op())
	default:
		if len(s.Ops) == 0 {
			return
		}
		o := &s.Ops[c.IntN(len(s.Ops))]
		switch c.IntN(5) {
		case 0:
			o.Kind = pick(c, n, c.IntN(9))
		case 1:
			o.Place = text
		case 2:
			o.Data = text
		case 3:
			o.Version = n
		default:
			o.Flags = pick(c, n, c.IntN(6)-1)
		}
	}
}

// TestThereAndBack: P18.3, Parse of what Print writes gives the same rules and steps.
func TestThereAndBack(t *testing.T) {
	t.Parallel()
	long := 0
	for seed := range uint64(4000) {
		c := chanceOf(seed, 184)
		rules, steps := c.rules(), c.steps(pick(c, 0, 1, 2, 5, 20, 60))
		text, code := run.Print(rules, steps)
		if code == api.ErrLong {
			long++
			continue
		}
		got, gotSteps, gotCode, line := run.Parse(text)
		if code != api.OK || got != rules || !same(gotSteps, steps) || gotCode != api.OK || line != 0 {
			t.Fatalf("P18.3: seed %d: Parse of Print(%+v, %s), which is %s, %d, = %+v, %s, %d, %d", seed, rules, tell(steps), short(text), code, got, tell(gotSteps), gotCode, line)
		}
	}
	if long > 1000 {
		t.Errorf("%d of 4000 scripts are too long", long)
	}
}

// TestBackAndThere: P18.3, what Parse reads Print writes, if it is not too long, and Parse of that gives the same.
func TestBackAndThere(t *testing.T) {
	for _, text := range []string{
		head, "#\n" + head + "\n\n  tick\t1#", script(`do 1 make"/a"""brief;get "\x2fb"`, "watch-1\"\"kids"), script("do 1 get \"\x80\xff\"", `do 1 get "/"`),
		head + strings.Repeat("do 1 get \"\x80\"\n", api.MaxSteps),
	} {
		rules, steps, code, _ := run.Parse(text)
		is(t, "P18.3: Parse", code, api.OK)
		printed, code := run.Print(rules, steps)
		is(t, "P18.3: Print of what Parse read", code, api.OK)
		again, againSteps, code, line := run.Parse(printed)
		if again != rules || !same(againSteps, steps) || code != api.OK || line != 0 {
			t.Errorf("P18.3: Parse of %s, that Print wrote of %s, = %+v, %s, %d, %d", short(printed), short(text), again, tell(againSteps), code, line)
		}
	}
	long := head + strings.Repeat("do 1 get \""+strings.Repeat("\x80", 150)+"\"\n", api.MaxSteps)
	rules, steps, code, line := run.Parse(long)
	if rules != headRules() || len(steps) != api.MaxSteps || code != api.OK || line != 0 {
		t.Errorf("P18.1: Parse of a long script = %+v, %d steps, %d, %d", rules, len(steps), code, line)
	}
	if text, code := run.Print(rules, steps); text != "" || code != api.ErrLong {
		t.Errorf("P18.2: Print of what is read of a long script = %d bytes, %d", len(text), code)
	}
	if lines := strings.Count(run.Run(long), "\n"); lines != api.MaxSteps+2 {
		t.Errorf("P18.5: Run of a long script has %d lines", lines)
	}
}
