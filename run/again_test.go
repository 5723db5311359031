package run_test

import (
	"fmt"
	"regexp"
	"strconv"
	"strings"
	"testing"

	"herald/api"
	"herald/run"
	"herald/world"
)

// The second reckoning of this package: a line's words are found by patterns, written down as a line of their kinds, and that line is held against patterns too; texts are written by fmt.

var (
	blanksAgain = regexp.MustCompile(`^[ \t\r]+`)
	wordsAgain  = regexp.MustCompile(`^(?:([a-z]+)|(0|-?[1-9][0-9]*)|(/[a-zA-Z0-9/_.-]*)|("(?:\\["\\n]|\\x[0-9a-fA-F]{2}|[^\x00-\x1f\x7f"\\])*")|(;))`)
	pieceAgain  = regexp.MustCompile(`\\(?:["\\n]|x[0-9a-fA-F]{2})`)
	behindName  = regexp.MustCompile(`^[0-9]`)
	behindCount = regexp.MustCompile(`^[0-9a-zA-Z]`)

	worldAgain = regexp.MustCompile(`^world nodes N clients N queue N ring N window N lease N$`)
	oneNumber  = regexp.MustCompile(`^(?:deliver|drop|double|tick|crash|restart|save|calm|begin|end) N$`)
	twoNumbers = regexp.MustCompile(`^(?:within|promote|unwatch) N N$`)
	spoilAgain = regexp.MustCompile(`^spoil N N N$`)
	watchAgain = regexp.MustCompile(`^watch N [PQ] (?:node|kids|subtree)$`)
	doAgain    = regexp.MustCompile(`^do N (?:` + opAgain + `)(?: ; (?:` + opAgain + `)){0,3}$`)
)

const opAgain = `make [PQ] Q(?: brief)?(?: counted)?|set [PQ] Q N|(?:drop|check) [PQ] N|(?:get|look|list) [PQ]`

var stepNames = []string{"", "deliver", "drop", "double", "spoil", "tick", "crash", "within", "restart", "promote", "save", "do", "watch", "unwatch", "begin", "end", "calm"}

var opNames = []string{"", "make", "set", "drop", "check", "get", "look", "list"}

var kindNames = []string{"", "node", "kids", "subtree"}

func indexOf(names []string, name string) int {
	for i, n := range names {
		if n == name {
			return i
		}
	}
	return -1
}

// latin is a text whose runes are the bytes of another one, so that patterns see bytes.
func latin(text string) string {
	var runes []rune
	for i := range len(text) {
		runes = append(runes, rune(text[i]))
	}
	return string(runes)
}

func unlatin(text string) string {
	var data []byte
	for _, r := range text {
		data = append(data, byte(r))
	}
	return string(data)
}

// lineAgain is a line of which the words are known: names and `;` as they are, N, P and Q for all others; and what these say.
type lineAgain struct {
	pattern string
	numbers []int
	texts   []string
	isWrong bool
}

func readAgain(line string) lineAgain {
	var l lineAgain
	var kinds []string
	rest := latin(line)
	for {
		rest = blanksAgain.ReplaceAllString(rest, "")
		if rest == "" || rest[0] == '#' {
			l.pattern = strings.Join(kinds, " ")
			return l
		}
		m := wordsAgain.FindStringSubmatch(rest)
		if m == nil {
			l.isWrong = true
			return l
		}
		rest = rest[len(m[0]):]
		switch {
		case m[1] != "":
			kinds = append(kinds, m[1])
			l.isWrong = l.isWrong || behindName.MatchString(rest)
		case m[2] != "":
			n, err := strconv.ParseInt(m[2], 10, 64)
			kinds, l.numbers = append(kinds, "N"), append(l.numbers, int(n))
			l.isWrong = l.isWrong || err != nil || max(n, -n) > most || behindCount.MatchString(rest)
		case m[3] != "":
			kinds, l.texts = append(kinds, "P"), append(l.texts, m[3])
			l.isWrong = l.isWrong || len(m[3]) > api.MaxRaw
		case m[4] != "":
			text := unlatin(pieceAgain.ReplaceAllStringFunc(m[4][1:len(m[4])-1], meantAgain))
			kinds, l.texts = append(kinds, "Q"), append(l.texts, text)
			l.isWrong = l.isWrong || len(text) > api.MaxRaw
		default:
			kinds = append(kinds, ";")
		}
	}
}

func meantAgain(piece string) string {
	if piece[1] == 'x' {
		c, _ := strconv.ParseUint(piece[2:], 16, 8)
		return string(rune(c))
	}
	return strings.Replace(piece[1:], "n", "\n", 1)
}

func (l *lineAgain) number() int {
	n := l.numbers[0]
	l.numbers = l.numbers[1:]
	return n
}

func (l *lineAgain) text() string {
	text := l.texts[0]
	l.texts = l.texts[1:]
	return text
}

func (l *lineAgain) step() (api.Step, bool) {
	names := strings.Fields(l.pattern)
	s := api.Step{Kind: indexOf(stepNames, names[0])}
	switch {
	case oneNumber.MatchString(l.pattern):
		s.A = l.number()
	case twoNumbers.MatchString(l.pattern):
		s.A, s.B = l.numbers[0], l.numbers[1]
	case spoilAgain.MatchString(l.pattern):
		s.A, s.B, s.C = l.numbers[0], l.numbers[1], l.numbers[2]
	case watchAgain.MatchString(l.pattern):
		s.A, s.Place, s.B = l.number(), l.text(), indexOf(kindNames, names[3])
	case doAgain.MatchString(l.pattern):
		s.A = l.number()
		for _, op := range strings.Split(strings.Join(names[2:], " "), " ; ") {
			s.Ops = append(s.Ops, l.op(op))
		}
	default:
		return api.Step{}, false
	}
	return s, true
}

func (l *lineAgain) op(pattern string) api.Op {
	names := strings.Fields(pattern)
	o := api.Op{Kind: indexOf(opNames, names[0]), Place: l.text()}
	if o.Kind <= api.OpSet {
		o.Data = l.text()
	}
	if names[len(names)-1] == "N" {
		o.Version = l.number()
	}
	if strings.Contains(pattern, " brief") {
		o.Flags++
	}
	if strings.Contains(pattern, " counted") {
		o.Flags += 2
	}
	return o
}

// parseAgain is Parse, once more.
func parseAgain(script string) (api.Rules, []api.Step, api.Errno, int) {
	if len(script) > api.MaxText {
		return api.Rules{}, nil, api.ErrLong, 0
	}
	var rules *api.Rules
	var steps []api.Step
	for number, text := range strings.Split(script, "\n") {
		l := readAgain(text)
		if l.pattern == "" && !l.isWrong {
			continue
		}
		if rules == nil {
			if l.isWrong || !worldAgain.MatchString(l.pattern) {
				return api.Rules{}, nil, api.ErrScript, number + 1
			}
			n := l.numbers
			rules = &api.Rules{Nodes: n[0], Clients: n[1], Queue: n[2], Ring: n[3], Window: n[4], Lease: n[5]}
			continue
		}
		var s api.Step
		isStep := false
		if !l.isWrong {
			s, isStep = l.step()
		}
		switch {
		case !isStep:
			return api.Rules{}, nil, api.ErrScript, number + 1
		case len(steps) == api.MaxSteps:
			return api.Rules{}, nil, api.ErrLong, number + 1
		}
		steps = append(steps, s)
	}
	if rules == nil {
		return api.Rules{}, nil, api.ErrScript, 0
	}
	return *rules, steps, api.OK, 0
}

// holdsAgain holds Parse against the second reckoning, and tells the code.
func holdsAgain(t *testing.T, text string) api.Errno {
	t.Helper()
	wantRules, wantSteps, wantCode, wantLine := parseAgain(text)
	rules, steps, code, line := run.Parse(text)
	if rules != wantRules || !same(steps, wantSteps) || code != wantCode || line != wantLine {
		t.Errorf("P18.1: Parse(%s) = %+v, %s, %d, %d, want %+v, %s, %d, %d", short(text), rules, tell(steps), code, line, wantRules, tell(wantSteps), wantCode, wantLine)
	}
	return code
}

// Writing:

var bareAgain = regexp.MustCompile(`^/[a-zA-Z0-9/_.-]*$`)

func placeAgain(text string) string {
	if bareAgain.MatchString(text) {
		return text
	}
	return quotedAgain(text)
}

func quotedAgain(text string) string {
	all := ""
	for i := range len(text) {
		switch c := text[i]; {
		case c == '\n':
			all += `\n`
		case strings.IndexByte(`"\`, c) >= 0:
			all += `\` + string(rune(c))
		case c < 32 || c > 126:
			all += fmt.Sprintf(`\x%02x`, c)
		default:
			all += string(rune(c))
		}
	}
	return `"` + all + `"`
}

func opLineAgain(o api.Op) string {
	line := opNames[o.Kind] + " " + placeAgain(o.Place)
	switch o.Kind {
	case api.OpMake:
		return line + " " + quotedAgain(o.Data) + []string{"", " brief", " counted", " brief counted"}[o.Flags]
	case api.OpSet:
		return fmt.Sprintf("%s %s %d", line, quotedAgain(o.Data), o.Version)
	case api.OpDrop, api.OpCheck:
		return fmt.Sprintf("%s %d", line, o.Version)
	}
	return line
}

func opsAgain(ops []api.Op) string {
	var all []string
	for _, o := range ops {
		all = append(all, opLineAgain(o))
	}
	return strings.Join(all, " ; ")
}

func stepLineAgain(s api.Step) string {
	line := fmt.Sprintf("%s %d", stepNames[s.Kind], s.A)
	switch s.Kind {
	case api.StepSpoil:
		return fmt.Sprintf("%s %d %d", line, s.B, s.C)
	case api.StepWithin, api.StepPromote, api.StepUnwatch:
		return fmt.Sprintf("%s %d", line, s.B)
	case api.StepWatch:
		return line + " " + placeAgain(s.Place) + " " + kindNames[s.B]
	case api.StepDo:
		return line + " " + opsAgain(s.Ops)
	}
	return line
}

func isNumberAgain(numbers ...int) bool {
	for _, n := range numbers {
		if n < -most || n > most {
			return false
		}
	}
	return true
}

// isOpAgain tells whether a script can have the op.
func isOpAgain(o api.Op) bool {
	if !isNumberAgain(o.Version) || len(o.Place) > api.MaxRaw || len(o.Data) > api.MaxRaw {
		return false
	}
	switch o.Kind {
	case api.OpMake:
		return 0 <= o.Flags && o.Flags <= 3 && o.Version == 0
	case api.OpSet:
		return o.Flags == 0
	case api.OpDrop, api.OpCheck:
		return o.Flags == 0 && o.Data == ""
	case api.OpGet, api.OpLook, api.OpList:
		return o.Flags == 0 && o.Data == "" && o.Version == 0
	}
	return false
}

// isStepAgain tells whether a script can have the step.
func isStepAgain(s api.Step) bool {
	if !isNumberAgain(s.A, s.B, s.C) || len(s.Place) > api.MaxRaw {
		return false
	}
	switch s.Kind {
	case api.StepDo:
		for _, o := range s.Ops {
			if !isOpAgain(o) {
				return false
			}
		}
		return s.B == 0 && s.C == 0 && s.Place == "" && 1 <= len(s.Ops) && len(s.Ops) <= api.MaxOps
	case api.StepWatch:
		return 1 <= s.B && s.B <= 3 && s.C == 0 && len(s.Ops) == 0
	case api.StepSpoil:
		return s.Place == "" && len(s.Ops) == 0
	case api.StepWithin, api.StepPromote, api.StepUnwatch:
		return s.C == 0 && s.Place == "" && len(s.Ops) == 0
	}
	return 1 <= s.Kind && s.Kind <= 16 && s.B == 0 && s.C == 0 && s.Place == "" && len(s.Ops) == 0
}

// printAgain is Print, once more.
func printAgain(rules api.Rules, steps []api.Step) (string, api.Errno) {
	if len(steps) > api.MaxSteps {
		return "", api.ErrLong
	}
	if !isNumberAgain(rules.Nodes, rules.Clients, rules.Queue, rules.Ring, rules.Window, rules.Lease) {
		return "", api.ErrScript
	}
	text := fmt.Sprintf("world nodes %d clients %d queue %d ring %d window %d lease %d\n", rules.Nodes, rules.Clients, rules.Queue, rules.Ring, rules.Window, rules.Lease)
	for _, s := range steps {
		if !isStepAgain(s) {
			return "", api.ErrScript
		}
		text += stepLineAgain(s) + "\n"
	}
	if len(text) > api.MaxText {
		return "", api.ErrLong
	}
	return text, api.OK
}

// printsAgain holds Print against the second reckoning, and tells what it wrote.
func printsAgain(t *testing.T, rules api.Rules, steps []api.Step) (string, api.Errno) {
	t.Helper()
	want, wantCode := printAgain(rules, steps)
	text, code := run.Print(rules, steps)
	if text != want || code != wantCode {
		t.Errorf("P18.2: Print(%+v, %s) = %s, %d, want %s, %d", rules, tell(steps), short(text), code, short(want), wantCode)
	}
	return text, code
}

// Transcripts:

func nodesAgain(nodes []api.Seen) string {
	line := ""
	for _, n := range nodes {
		line += fmt.Sprintf(" [%s %s %d]", placeAgain(n.Place), quotedAgain(n.Data), n.Version)
	}
	return line
}

func resultsAgain(results []api.Result) string {
	line := ""
	for _, r := range results {
		kids := strings.Join(append([]string{""}, r.Kids...), " ")
		line += fmt.Sprintf(" [%s %s %d %d %d %d%s]", placeAgain(r.Place), quotedAgain(r.Data), r.Version, r.Made, r.Changed, r.Owner, kids)
	}
	return line
}

// itemAgain is an item as the transcript has it; and the words by which the tests count what they have seen.
func itemAgain(item api.Item) (string, string) {
	if item.Marker {
		line := fmt.Sprintf("takes marker %d", item.Stamp)
		for _, p := range item.Parts {
			line += fmt.Sprintf(" {%d%s}", p.Id, nodesAgain(p.Shot.Nodes))
		}
		return line, fmt.Sprintf("marker of %d", len(item.Parts))
	}
	line, what := fmt.Sprintf("takes %d", item.Stamp), "event"
	for _, c := range item.Changes {
		name := []string{"", "made", "set", "gone"}[c.Change.Kind]
		line += fmt.Sprintf(" [%s %s %s %d: %s]", name, placeAgain(c.Change.Place), quotedAgain(c.Change.Data), c.Change.Version, strings.Trim(fmt.Sprint(c.Tags), "[]"))
		what += " " + name
	}
	return line, what
}

func toldAgain(k api.Told) (string, string) {
	switch k.Kind {
	case api.ToldBegin:
		return fmt.Sprintf("begins %d", k.Session), "begins"
	case api.ToldBegun:
		return fmt.Sprintf("has %d", k.Session), "has"
	case api.ToldEnd:
		return fmt.Sprintf("ends %d", k.Session), "ends"
	case api.ToldGone:
		return fmt.Sprintf("is without %d", k.Session), fmt.Sprintf("is without, %d", k.Code)
	case api.ToldCall:
		return fmt.Sprintf("calls %d.%d %s", k.Session, k.Request, opsAgain(k.Ops)), "calls"
	case api.ToldReply:
		line := fmt.Sprintf("hears %d.%d at %d", k.Session, k.Request, k.Stamp)
		if k.Reply.Code != api.OK {
			return line + fmt.Sprintf(" refused %d at %d", k.Reply.Code, k.Reply.At), fmt.Sprintf("refused at %d", k.Reply.At)
		}
		return line + resultsAgain(k.Reply.Results), fmt.Sprintf("hears %d", len(k.Reply.Results))
	case api.ToldWatch:
		return fmt.Sprintf("asks for %d %s %s", k.Watch.Id, placeAgain(k.Watch.Place), kindNames[k.Watch.Kind]), "asks for " + kindNames[k.Watch.Kind]
	case api.ToldUnwatch:
		return fmt.Sprintf("gives up %d", k.Watch.Id), "gives up"
	case api.ToldWatched:
		if k.Code != api.OK {
			return fmt.Sprintf("is refused %d %d", k.Watch.Id, k.Code), "is refused"
		}
		return fmt.Sprintf("is granted %d at %d%s", k.Watch.Id, k.Part.Shot.Stamp, nodesAgain(k.Part.Shot.Nodes)), "is granted"
	}
	return itemAgain(k.Item)
}

func entryAgain(e api.Entry) (string, string) {
	name := []string{"", "request", "open", "close", "expire"}[e.Kind]
	line := fmt.Sprintf("  %d view %d %s %d", e.Stamp, e.View, name, e.Session)
	if e.Kind == api.EntryRequest {
		line += fmt.Sprintf(".%d %s", e.Request, opsAgain(e.Ops))
	}
	return line + "\n", "entry " + name
}

// played is what a script comes to: its transcript, and what Play tells.
type played struct {
	text    string
	told    []api.Told
	history []api.Entry
	fault   *api.Fault
}

// playAgain is Run and Play, once more; what comes up is counted.
func playAgain(script string, seen map[string]int) played {
	rules, steps, code, line := parseAgain(script)
	if code != api.OK {
		return played{text: fmt.Sprintf("script error %d at %d\n", code, line), fault: &api.Fault{Why: api.WhyScript, Code: code, Line: line}}
	}
	w, code := world.New(rules)
	if code != api.OK {
		return played{text: "rules refused\n", fault: &api.Fault{Why: api.WhyScript, Code: code}}
	}
	var p played
	for i, s := range steps {
		told, code := w.Step(s)
		p.told = append(p.told, told...)
		p.text += fmt.Sprintf("%d: %s", i, stepLineAgain(s))
		if code != api.OK {
			p.text += fmt.Sprintf(" refused %d", code)
		}
		p.text += "\n"
		seen[fmt.Sprintf("step %s %t", stepNames[s.Kind], code == api.OK)]++
		for _, k := range told {
			line, what := toldAgain(k)
			p.text += fmt.Sprintf("  client %d %s\n", k.Client, line)
			seen[what]++
		}
	}
	p.history = w.History()
	p.text += fmt.Sprintf("history %d\n", len(p.history))
	for _, e := range p.history {
		line, what := entryAgain(e)
		p.text += line
		seen[what]++
	}
	for k := 1; k <= rules.Clients; k++ {
		p.text += fmt.Sprintf("client %d sees", k)
		pictures, _ := w.Pictures(k)
		for _, part := range pictures {
			p.text += fmt.Sprintf(" {%d at %d%s}", part.Id, part.Shot.Stamp, nodesAgain(part.Shot.Nodes))
		}
		p.text += "\n"
		seen[fmt.Sprintf("sees %d", len(pictures))]++
	}
	return p
}
