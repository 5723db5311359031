package audit_test

import (
	"testing"

	"herald/api"
	"herald/audit"
	"herald/run"
)

// wholeScripts are those of the ten examples of the whole, and one that is told nothing.
func wholeScripts() []string {
	one := "world nodes 1 clients 1 queue 2 ring 8 window 1 lease 0\n"
	return []string{
		one,
		one + "begin 1\ncalm 4\ndo 1 make /a \"x\" ; make /a \"\"\ncalm 2\ndo 1 make /a/n \"\" counted ; make /a \"x\"\ncalm 2\ndo 1 make /a \"x\" ; make /a/n \"\" counted ; make /a/n \"\" counted ; list /a\ncalm 2",
		one + "begin 1\ncalm 4\ndo 1 make /n \"\" counted\ndouble 0\ncalm 2",
		one + "begin 1\ncalm 4\ndo 1 make /a \"\"\nwithin 0 -1\nrestart 1\ncalm 4",
		one + "begin 1\ncalm 4\ndo 1 make /a \"\"\nwithin 0 3\nrestart 1\ncalm 4",
		one + "begin 1\ncalm 4\nwatch 1 / kids\nwatch 1 /a node\ncalm 2\ndo 1 make /a \"x\" ; make /a/b \"\"\ncalm 2\ndo 1 set /a \"y\" -1\ncalm 2",
		"world nodes 1 clients 2 queue 1 ring 8 window 1 lease 0\nbegin 1\nbegin 2\ncalm 4\nwatch 1 / subtree\ncalm 2\ndo 2 make /a \"1\"\ndeliver 0\ndeliver 0\ndo 2 set /a \"2\" -1\ndeliver 1\ndeliver 1\ndrop 0\ncalm 2",
		"world nodes 2 clients 1 queue 2 ring 8 window 1 lease 0\nbegin 1\ncalm 6\ndo 1 make /a \"x\"\ncalm 4\ncrash 1\npromote 2 0\ndo 1 get /a\ncalm 6",
		one + "begin 1\ncalm 4\nwatch 1 / subtree\ncalm 2\ndo 1 make /a \"x\"\ndeliver 0\ndeliver 0\ndrop 0\nsave 1\ncrash 1\nrestart 1\ncalm 4",
		"world nodes 1 clients 2 queue 2 ring 8 window 1 lease 0\nbegin 1\nbegin 2\ncalm 4\nwatch 2 / kids\ndo 1 make /b \"\" brief\ncalm 3\nend 1\ncalm 3\nbegin 1\ncalm 3",
		"world nodes 1 clients 2 queue 2 ring 8 window 1 lease 2\nbegin 1\nbegin 2\ncalm 4\ndo 1 make /b \"\" brief\ncalm 2\ntick 1\ntick 1\ntick 1\ndrop 0\ndrop 0\ndrop 0\ndrop 0\ndrop 0\ndrop 0\ndrop 0\ndrop 0\ncalm 3",
	}
}

// playOf is what a script tells, and its history.
func playOf(t *testing.T, script string) ([]api.Told, []api.Entry) {
	t.Helper()
	told, history, err := run.Play(script)
	if err != nil {
		t.Fatalf("P18.4: Play says %v", err)
	}
	return told, history
}

// TestExamplesOfTheWhole: P19.5, what the ten examples of the whole tell is true; and each lie in it is told.
func TestExamplesOfTheWhole(t *testing.T) {
	seen := map[string]int{}
	for i, script := range wholeScripts() {
		told, history := playOf(t, script)
		if code, at := audit.Check(history, told); code != api.OK || at != 0 || i > 0 && len(history) < 2 {
			t.Errorf("P19.5: the example %d: Check = %d, %d, of %d entries", i, code, at, len(history))
		}
		truth, _ := truthOf(history)
		x := &witness{t: t, truth: truth, told: told}
		x.lies(seen)
		for _, wrong := range twisted(told) {
			holdsAgain(t, history, wrong)
		}
	}
	for _, what := range lieNames() {
		if seen[what] == 0 {
			t.Errorf("P19.5: the examples have no lie %q", what)
		}
	}
}

// TestMarkerInExamples: P19.5, two of the examples have a marker, and leaving out its part or telling it of an earlier stamp is told.
func TestMarkerInExamples(t *testing.T) {
	for i, earlier := range map[int]api.Errno{6: api.ErrPicture, 8: api.ErrMarker} { // the second one is told then that its watch is as old as the marker
		told, history := playOf(t, wholeScripts()[i])
		at := len(told) - 1
		if !told[at].Item.Marker {
			t.Fatalf("the example %d ends with %s", i, tell(told[at]))
		}
		truth, _ := truthOf(history)
		x := &witness{t: t, truth: truth, told: told}
		x.isLie(map[string]int{}, "no part", x.with(at, changed(told[at], func(t *api.Told) { t.Item.Parts = nil })), api.ErrMarker, at)
		x.isLie(map[string]int{}, "an earlier stamp", x.with(at, changed(told[at], func(t *api.Told) { t.Item.Stamp--; t.Item.Parts[0].Shot.Stamp-- })), earlier, at)
		x.isLie(map[string]int{}, "a later stamp", x.with(at, changed(told[at], func(t *api.Told) { t.Item.Stamp++; t.Item.Parts[0].Shot.Stamp++ })), api.ErrHistory, at)
		x.isLie(map[string]int{}, "no watch", without(told, api.ToldWatched), api.ErrMarker, at-1)
	}
}

// without is a list without the told things of a kind.
func without(told []api.Told, kind int) []api.Told {
	var all []api.Told
	for _, t := range told {
		if t.Kind != kind {
			all = append(all, t)
		}
	}
	return all
}
