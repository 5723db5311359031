package run_test

import (
	"errors"
	"fmt"
	"slices"
	"strings"
	"testing"

	"herald/api"
	"herald/run"
)

// playPlaces are those of which the clients of plays speak; some are none.
var playPlaces = []string{"/", "/a", "/a", "/a/b", "/a/n00000", "/c", "/c", "/c/n00001", "/n00000", "/a.b", "x y", "/a/"}

// playOp is one that changes something more often than not.
func (c chance) playOp() api.Op {
	o := api.Op{Place: pick(c, playPlaces...)}
	switch c.IntN(10) {
	case 0, 1, 2, 3:
		o.Kind, o.Flags = api.OpMake, pick(c, 0, 0, 0, 1, 2, 2, 3)
		if o.Flags&api.FlagCounted != 0 {
			o.Place = pick(c, "/n", "/a/n", "/c/n")
		}
	case 4, 5, 6:
		o.Kind, o.Version = api.OpSet, pick(c, -1, -1, -1, 0, 1)
	case 7:
		o.Kind, o.Version = pick(c, api.OpDrop, api.OpDrop, api.OpCheck), pick(c, -1, -1, 0)
	default:
		o.Kind = pick(c, api.OpGet, api.OpLook, api.OpList, api.OpList)
	}
	if o.Kind <= api.OpSet {
		o.Data = pick(c, "", "x", "\n", "a \"b\" \\", "\x00\xff", strings.Repeat("d", api.MaxData))
	}
	return o
}

// playStep is one of a play in which messages come late, get lost, doubled and spoilt, and nodes stop.
func (c chance) playStep(rules api.Rules, trouble int) api.Step {
	node, client := 1+c.IntN(rules.Nodes), 1+c.IntN(rules.Clients)
	if c.IntN(100) < trouble {
		return pick(c,
			stepOf(api.StepDrop, c.IntN(9)-4), stepOf(api.StepDouble, c.IntN(9)-4), stepOf(api.StepSpoil, c.IntN(9)-4, c.IntN(400)-200, c.IntN(257)),
			stepOf(api.StepCrash, node), stepOf(api.StepWithin, c.IntN(9)-4, c.IntN(99)-9), stepOf(api.StepRestart, node), stepOf(api.StepRestart, node), stepOf(api.StepRestart, node),
			stepOf(api.StepPromote, node, c.IntN(rules.Nodes+1)), stepOf(api.StepPromote, node, c.IntN(rules.Nodes+1)), stepOf(api.StepSave, node), stepOf(api.StepTick, node), stepOf(api.StepCalm, c.IntN(2)*65))
	}
	switch k := c.IntN(100); {
	case k < 4:
		return stepOf(api.StepTick, node)
	case k < 38:
		var ops []api.Op
		for range pick(c, 1, 1, 1, 2, 3, 4) {
			ops = append(ops, c.playOp())
		}
		return does(client, ops...)
	case k < 46:
		return watches(client, pick(c, playPlaces...), 1+c.IntN(3))
	case k < 49:
		return stepOf(api.StepUnwatch, client, 1+c.IntN(8))
	case k < 55:
		return stepOf(api.StepBegin, client)
	case k < 56:
		return stepOf(api.StepEnd, client)
	case k < 62:
		return stepOf(api.StepTick, 100+client)
	case k < 75:
		return stepOf(api.StepDeliver, c.IntN(5)-2)
	}
	return stepOf(api.StepCalm, pick(c, 1, 1, 1, 2, 3))
}

// playScript is a whole script, laid out in some way.
func (c chance) playScript(size int) string {
	rules := api.Rules{Nodes: pick(c, 1, 2, 2, 3, 5), Clients: 1 + c.IntN(4), Queue: pick(c, 1, 1, 2, 4, 32), Ring: pick(c, 1, 2, 8, 16, 64), Window: pick(c, 1, 2, 8), Lease: pick(c, 0, 0, 1, 2, 20)}
	lines := []string{fmt.Sprintf("world nodes %d clients %d queue %d ring %d window %d lease %d", rules.Nodes, rules.Clients, rules.Queue, rules.Ring, rules.Window, rules.Lease)}
	trouble := pick(c, 0, 2, 10, 30)
	for k := range rules.Clients {
		lines = append(lines, fmt.Sprintf("begin %d", 1+k))
	}
	lines = append(lines, "calm 6")
	for range size {
		lines = append(lines, c.laidOut(stepLineAgain(c.playStep(rules, trouble))))
	}
	return strings.Join(lines, "\n")
}

// holdsPlay holds Run and Play against the second reckoning.
func holdsPlay(t *testing.T, script string, seen map[string]int) {
	t.Helper()
	want := playAgain(script, seen)
	if text := run.Run(script); text != want.text {
		t.Errorf("P18.5: Run(%s) =\n%s\nwant\n%s", short(script), text, want.text)
	}
	told, history, err := run.Play(script)
	var f *api.Fault
	errors.As(err, &f)
	isSameFault := f == nil && want.fault == nil && err == nil || f != nil && want.fault != nil && *f == *want.fault
	if !same(told, want.told) || !same(history, want.history) || !isSameFault {
		t.Errorf("P18.4: Play(%s) = %s, %s, %v, want %s, %s, %v", short(script), tell(told), tell(history), err, tell(want.told), tell(want.history), want.fault)
	}
}

// TestPlays: P18.4 and P18.5, long plays with every kind of step, told thing and entry, against the second reckoning.
func TestPlays(t *testing.T) {
	t.Parallel()
	seen := map[string]int{}
	for seed := range uint64(150) {
		c := chanceOf(seed, 185)
		holdsPlay(t, c.playScript(pick(c, 30, 100, api.MaxSteps-10)), seen)
		if t.Failed() {
			t.Fatalf("seed %d", seed)
		}
	}
	for _, what := range []string{
		"begins", "has", "ends", "is without, 0", "calls", "refused at 0", "refused at 1", "refused at 2", "refused at 3", "hears 1", "hears 2", "hears 3", "hears 4", "asks for node", "asks for kids", "asks for subtree", "gives up", "is granted",
		"event made", "event set", "event gone", "event made made", "marker of 1", "marker of 2", "marker of 3", "entry request", "entry open", "entry close", "entry expire", "sees 0", "sees 1", "sees 2", "sees 3",
	} {
		if seen[what] < 3 {
			t.Errorf("the plays have %q only %d times", what, seen[what])
		}
	}
	for _, name := range stepNames[1:] {
		for _, how := range []bool{true, false} {
			if what := fmt.Sprintf("step %s %t", name, how); seen[what] < 3 {
				t.Errorf("the plays have %q only %d times", what, seen[what])
			}
		}
	}
}

// TestDamagedPlays: P18.4 and P18.5, scripts that may be refused, against the second reckoning.
func TestDamagedPlays(t *testing.T) {
	t.Parallel()
	refused := 0
	for seed := range uint64(300) {
		c := chanceOf(seed, 186)
		script := c.damaged(c.playScript(5))
		if holdsPlay(t, script, map[string]int{}); strings.HasPrefix(run.Run(script), "script error") {
			refused++
		}
	}
	if refused < 100 || refused > 280 {
		t.Errorf("of 300 damaged scripts %d are refused", refused)
	}
}

// all are the answers of all calls to one script.
type all struct {
	Rules    api.Rules
	Steps    []api.Step
	Code     api.Errno
	Line     int
	Text     string
	TextCode api.Errno
	Run      string
	Told     []api.Told
	History  []api.Entry
}

func allOf(script string) all {
	var a all
	a.Rules, a.Steps, a.Code, a.Line = run.Parse(script)
	a.Text, a.TextCode = run.Print(a.Rules, a.Steps)
	a.Run = run.Run(script)
	a.Told, a.History, _ = run.Play(script)
	return a
}

// TestNothingIsKept: P18.6 and W2, what is answered to a script does not depend on what was asked earlier, nor on what is asked at the same time.
func TestNothingIsKept(t *testing.T) {
	t.Parallel()
	var scripts []string
	var first []all
	for seed := range uint64(20) {
		c := chanceOf(seed, 187)
		scripts = append(scripts, c.playScript(40), c.damaged(c.playScript(5)), "tick", "")
	}
	for _, s := range scripts {
		first = append(first, allOf(s))
	}
	for i, s := range slices.Backward(scripts) {
		if !same(allOf(s), first[i]) {
			t.Errorf("P18.6: a second time %s is answered otherwise", short(s))
		}
	}
	done := make(chan string)
	for i, s := range scripts {
		go func() {
			if same(allOf(s), first[i]) {
				done <- ""
			} else {
				done <- s
			}
		}()
	}
	for range scripts {
		if s := <-done; s != "" {
			t.Errorf("P18.6: at one time with others %s is answered otherwise", short(s))
		}
	}
}
