package run_test

import (
	"errors"
	"regexp"
	"strings"
	"testing"

	"herald/api"
	"herald/run"
)

// ownExamples have every kind of step, op, told thing and entry, as the chapter writes them.
func ownExamples() []example {
	return []example{
		{"world nodes 2 clients 3 queue 2 ring 8 window 1 lease 0", `0: tick 1
1: begin 1
  client 1 begins 1
2: begin 1 refused 150
3: begin 2
  client 2 begins 2
4: begin 4 refused 170
5: calm 6
  client 1 has 1
  client 2 has 2
6: watch 1 / subtree
  client 1 asks for 1 / subtree
7: watch 1 /a node
  client 1 asks for 2 /a node
8: watch 1 "a" kids refused 10
9: watch 2 /a kids
  client 2 asks for 1 /a kids
10: calm 3
  client 1 is granted 1 at 2 [/ "" 0]
  client 2 is granted 1 at 2
  client 1 is granted 2 at 2
11: do 1 make /a "x\n\"\\\x00\xe9 #;" ; make /a/n "" brief counted ; make /a/n "y" counted ; list /a
  client 1 calls 1.1 make /a "x\n\"\\\x00\xe9 #;" ; make /a/n "" brief counted ; make /a/n "y" counted ; list /a
12: calm 3
  client 1 hears 1.1 at 3 [/a "" 0 3 3 0] [/a/n00000 "" 0 3 3 1] [/a/n00001 "" 0 3 3 0] [/a "" 0 3 3 0 n00000 n00001]
  client 1 takes 3 [made /a "x\n\"\\\x00\xe9 #;" 0: 1 2] [made /a/n00000 "" 0: 1] [made /a/n00001 "y" 0: 1]
  client 2 takes 3 [made /a "x\n\"\\\x00\xe9 #;" 0: 1] [made /a/n00000 "" 0: 1] [made /a/n00001 "y" 0: 1]
13: do 2 check /a 0 ; set /a "z" 0 ; set /a "z" 0
  client 2 calls 2.1 check /a 0 ; set /a "z" 0 ; set /a "z" 0
14: calm 2
  client 2 hears 2.1 at 4 refused 42 at 2
15: do 2 look /a ; get /a ; drop /a/n00001 -1 ; list /a/n00000
  client 2 calls 2.2 look /a ; get /a ; drop /a/n00001 -1 ; list /a/n00000
16: calm 3
  client 2 hears 2.2 at 5 [/a "" 0 3 3 0] [/a "x\n\"\\\x00\xe9 #;" 0 3 3 0] [/a/n00001 "" 0 0 0 0] [/a/n00000 "" 0 3 3 1]
  client 1 takes 5 [gone /a/n00001 "" 0: 1]
  client 2 takes 5 [gone /a/n00001 "" 0: 1]
17: do 2 get "a b" ; list /
  client 2 calls 2.3 get "a b" ; list /
18: do 2 get / refused 150
19: calm 3
  client 2 hears 2.3 at 6 refused 10 at 0
20: unwatch 1 2
  client 1 gives up 2
21: unwatch 1 2 refused 150
22: calm 3
23: do 2 set /a "1" -1
  client 2 calls 2.4 set /a "1" -1
24: calm 1
  client 2 hears 2.4 at 7 [/a "" 1 3 7 0]
  client 1 takes 7 [set /a "1" 1: 1]
history 7
  1 view 1 open 1
  2 view 1 open 2
  3 view 1 request 1.1 make /a "x\n\"\\\x00\xe9 #;" ; make /a/n "" brief counted ; make /a/n "y" counted ; list /a
  4 view 1 request 2.1 check /a 0 ; set /a "z" 0 ; set /a "z" 0
  5 view 1 request 2.2 look /a ; get /a ; drop /a/n00001 -1 ; list /a/n00000
  6 view 1 request 2.3 get "a b" ; list /
  7 view 1 request 2.4 set /a "1" -1
client 1 sees {1 at 7 [/ "" 0] [/a "1" 1] [/a/n00000 "" 0]}
client 2 sees {1 at 5 [/a "" 0] [/a/n00000 "" 0]}
client 3 sees
`},
		{"world nodes 2 clients 3 queue 2 ring 8 window 1 lease 0", `0: do 2 check /a 0 refused 150
1: begin 1
  client 1 begins 1
2: begin 2
  client 2 begins 2
3: calm 6
  client 1 has 1
  client 2 has 2
4: watch 1 / subtree
  client 1 asks for 1 / subtree
5: watch 1 /a node
  client 1 asks for 2 /a node
6: calm 3
  client 1 is granted 1 at 2 [/ "" 0]
  client 1 is granted 2 at 2
7: do 1 make /a "x"
  client 1 calls 1.1 make /a "x"
8: do 2 set /a "3" -1
  client 2 calls 2.1 set /a "3" -1
9: deliver -1
10: spoil 0 -1 256 refused 170
11: spoil 0 -1 255
12: within -1 9
13: restart 2
14: crash 1
15: crash 1 refused 140
16: promote 2 1
17: restart 1
18: save 2
19: calm 8
  client 2 hears 2.1 at 3 refused 40 at 0
  client 1 hears 1.1 at 4 [/a "" 0 4 4 0]
  client 1 takes 4 [made /a "x" 0: 1 2]
20: end 1
  client 1 ends 1
21: end 3 refused 150
22: calm 4
  client 1 is without 1
23: begin 3
  client 3 begins 3
24: end 2
  client 2 ends 2
25: end 2 refused 150
26: double 0
27: calm 5
  client 3 has 3
  client 2 is without 2
28: do 3 drop /a 1
  client 3 calls 3.1 drop /a 1
29: calm 3
  client 3 hears 3.1 at 8 refused 42 at 0
history 8
  1 view 1 open 1
  2 view 1 open 2
  3 view 1 request 2.1 set /a "3" -1
  4 view 2 request 1.1 make /a "x"
  5 view 2 close 1
  6 view 2 open 3
  7 view 2 close 2
  8 view 2 request 3.1 drop /a 1
client 1 sees
client 2 sees
client 3 sees
`},
		{"world nodes 1 clients 2 queue 1 ring 8 window 1 lease 1", `0: begin 1
  client 1 begins 1
1: begin 2
  client 2 begins 2
2: calm 4
  client 1 has 1
  client 2 has 2
3: watch 2 / kids
  client 2 asks for 1 / kids
4: watch 2 /a subtree
  client 2 asks for 2 /a subtree
5: watch 2 /b node
  client 2 asks for 3 /b node
6: calm 3
  client 2 is granted 1 at 2 [/ "" 0]
  client 2 is granted 2 at 2
  client 2 is granted 3 at 2
7: do 1 make /a "1" ; make /a/b "\n"
  client 1 calls 1.1 make /a "1" ; make /a/b "\n"
8: deliver 0
9: deliver 0
  client 1 hears 1.1 at 3 [/a "" 0 3 3 0] [/a/b "" 0 3 3 0]
10: do 1 make /b "" brief
  client 1 calls 1.2 make /b "" brief
11: deliver -1
12: deliver -1
  client 2 takes marker 4 {1 [/ "" 0] [/a "" 0] [/b "" 0]} {2 [/a "1" 0] [/a/b "\n" 0]} {3 [/b "" 0]}
13: drop 0
14: calm 2
  client 1 hears 1.2 at 4 [/b "" 0 4 4 1]
15: tick 1
16: tick 1
17: tick 102
18: deliver -1
19: calm 2
  client 1 is without 1
  client 2 is without 2
20: unwatch 2 1 refused 150
21: calm 2
22: begin 1
  client 1 begins 17
23: calm 3
  client 1 has 17
history 7
  1 view 1 open 1
  2 view 1 open 2
  3 view 1 request 1.1 make /a "1" ; make /a/b "\n"
  4 view 1 request 1.2 make /b "" brief
  5 view 1 expire 1
  6 view 1 expire 2
  7 view 1 open 17
client 1 sees
client 2 sees
`},
	}
}

var (
	stepLines   = regexp.MustCompile(`(?m)^[0-9]+: (.*?)(?: refused [0-9]+)?$`)
	clientLines = regexp.MustCompile(`(?m)^  client `)
)

// script is the one of which the example's transcript is.
func (e example) script() string {
	lines := []string{e.first}
	for _, m := range stepLines.FindAllStringSubmatch(e.transcript, -1) {
		lines = append(lines, m[1])
	}
	return strings.Join(lines, "\n")
}

// TestTranscripts: P18.5, the document's examples of the whole, and those that have every kind of line.
func TestTranscripts(t *testing.T) {
	for i, e := range append(wholeExamples(), ownExamples()...) {
		if got := run.Run(e.script()); got != e.transcript {
			t.Errorf("P18.5: Run of example %d is\n%s\nwant\n%s", i+1, got, e.transcript)
		}
		told, history, err := run.Play(e.script())
		wantTold := len(clientLines.FindAllString(e.transcript, -1))
		if err != nil || len(told) != wantTold || len(history) != strings.Count(e.transcript, " view ") {
			t.Errorf("P18.4: Play of example %d tells %d things and %d entries, %v", i+1, len(told), len(history), err)
		}
		loose := strings.ReplaceAll(e.script(), "\n", "\r\n\n# x\n\t")
		if got := run.Run(loose); got != e.transcript {
			t.Errorf("P18.5: Run of example %d, laid out in another way, is\n%s", i+1, got)
		}
	}
}

// TestRunExamples: P18.5, the chapter's examples, and worlds in which little happens.
func TestRunExamples(t *testing.T) {
	const all = "world nodes 5 clients 6 queue 32 ring 64 window 8 lease 1000"
	for script, want := range map[string]string{
		"x": "script error 180 at 1\n",
		"world nodes 0 clients 0 queue 0 ring 0 window 0 lease 0":           "rules refused\n",
		"world nodes 0 clients 0 queue 0 ring 0 window 0 lease 0\ntick 1\n": "rules refused\n",
		"world nodes 0 clients 0 queue 0 ring 0 window 0 lease 0\ntick":     "script error 180 at 2\n",
		"":                                  "script error 180 at 0\n",
		"# x\n#":                            "script error 180 at 0\n",
		"\n\n\n" + all + "\n\n\ntick":       "script error 180 at 7\n",
		strings.Repeat("\n", api.MaxText+1): "script error 2 at 0\n",
		head + strings.Repeat("tick 0\n", api.MaxSteps+1): "script error 2 at 402\n",
		head: "history 0\nclient 1 sees\n",
		all:  "history 0\nclient 1 sees\nclient 2 sees\nclient 3 sees\nclient 4 sees\nclient 5 sees\nclient 6 sees\n",
		head + "tick 0\ntick 7\ntick 101\ntick 102\ncalm 65\ncalm 0\npromote 1 1\npromote 2 1":       "0: tick 0\n1: tick 7 refused 170\n2: tick 101\n3: tick 102 refused 170\n4: calm 65 refused 170\n5: calm 0 refused 170\n6: promote 1 1 refused 121\n7: promote 2 1 refused 121\nhistory 0\nclient 1 sees\n",
		head + "restart 1\ncrash 1\nsave 1\nsave 3\nrestart 1\nwatch 1 \"\\x00\" node\nunwatch -1 0": "0: restart 1 refused 170\n1: crash 1\n2: save 1 refused 140\n3: save 3 refused 170\n4: restart 1\n5: watch 1 \"\\x00\" node refused 10\n6: unwatch -1 0 refused 170\nhistory 0\nclient 1 sees\n",
	} {
		if got := run.Run(script); got != want {
			t.Errorf("P18.5: Run(%s) = %q, want %q", short(script), got, want)
		}
	}
	for _, rules := range []string{"nodes 6 clients 1 queue 1 ring 1 window 1 lease 0", "nodes 1 clients 7 queue 1 ring 1 window 1 lease 0", "nodes 1 clients 1 queue 33 ring 1 window 1 lease 0", "nodes 1 clients 1 queue 1 ring 65 window 1 lease 0", "nodes 1 clients 1 queue 1 ring 1 window 9 lease 0", "nodes 1 clients 1 queue 1 ring 1 window 1 lease 1001", "nodes -1 clients 1 queue 1 ring 1 window 1 lease 0"} {
		is(t, "P18.5: Run of "+rules, run.Run("world "+rules+"\nbegin 1"), "rules refused\n")
		holdsFault(t, "world "+rules+"\nbegin 1", api.ErrArg, 0)
	}
}

// TestToldThings: P18.5, the line of every kind of told thing, such as no script may come to, too.
func TestToldThings(t *testing.T) {
	nodes := []api.Seen{{Place: "/a", Data: "x\n", Version: 7}, {Place: "a b", Version: -1}}
	watch := api.Watch{Id: 5, Place: "/w", Kind: api.WatchKids, From: 9}
	for _, x := range []struct {
		told api.Told
		want string
	}{
		{api.Told{Kind: api.ToldBegin, Session: 17}, "begins 17"},
		{api.Told{Kind: api.ToldBegun, Session: 17}, "has 17"},
		{api.Told{Kind: api.ToldEnd, Session: 17}, "ends 17"},
		{api.Told{Kind: api.ToldGone, Session: 17}, "is without 17"},
		{api.Told{Kind: api.ToldGone, Session: 17, Code: api.ErrSession}, "is without 17"},
		{api.Told{Kind: api.ToldCall, Session: 3, Request: 4, Ops: []api.Op{gets("/"), gets("x")}}, `calls 3.4 get / ; get "x"`},
		{api.Told{Kind: api.ToldReply, Session: 3, Request: 4, Stamp: 5, Reply: api.Reply{Stamp: 5, Code: api.ErrFull, At: 2}}, "hears 3.4 at 5 refused 46 at 2"},
		{api.Told{Kind: api.ToldReply, Session: 3, Request: 4, Stamp: 5, Reply: api.Reply{Stamp: 5}}, "hears 3.4 at 5"},
		{api.Told{Kind: api.ToldReply, Session: 3, Request: 4, Stamp: 5, Reply: api.Reply{Stamp: 5, Results: []api.Result{{Place: "/a", Data: "\"", Version: 1, Made: 2, Changed: 3, Owner: 4, Kids: []string{"k", "l.m"}}, {Place: "b"}}}}, `hears 3.4 at 5 [/a "\"" 1 2 3 4 k l.m] ["b" "" 0 0 0 0]`},
		{api.Told{Kind: api.ToldWatch, Watch: watch}, "asks for 5 /w kids"},
		{api.Told{Kind: api.ToldWatch, Watch: api.Watch{Id: 1, Place: "\n", Kind: api.WatchSubtree}}, `asks for 1 "\n" subtree`},
		{api.Told{Kind: api.ToldUnwatch, Watch: watch}, "gives up 5"},
		{api.Told{Kind: api.ToldWatched, Watch: watch, Code: api.ErrFull}, "is refused 5 46"},
		{api.Told{Kind: api.ToldWatched, Watch: watch, Stamp: 9, Part: api.Part{Id: 5, Shot: api.Shot{Stamp: 9, Nodes: nodes}}}, `is granted 5 at 9 [/a "x\n" 7] ["a b" "" -1]`},
		{api.Told{Kind: api.ToldWatched, Watch: watch, Part: api.Part{Id: 5}}, "is granted 5 at 0"},
		{api.Told{Kind: api.ToldItem, Stamp: 8, Item: api.Item{Stamp: 8, After: 7, Changes: []api.Tagged{
			{Change: api.Change{Kind: api.ChangeMade, Place: "/a", Data: "x"}, Tags: []int{1, 20}},
			{Change: api.Change{Kind: api.ChangeSet, Place: "/b", Data: "\x01", Version: 3}, Tags: []int{2}},
			{Change: api.Change{Kind: api.ChangeGone, Place: "c", Version: 12}, Tags: []int{1, 2, 3, 4}}}}}, `takes 8 [made /a "x" 0: 1 20] [set /b "\x01" 3: 2] [gone "c" "" 12: 1 2 3 4]`},
		{api.Told{Kind: api.ToldItem, Stamp: 8, Item: api.Item{Stamp: 8, Marker: true, Parts: []api.Part{{Id: 2}, {Id: 30, Shot: api.Shot{Stamp: 8, Nodes: nodes}}}}}, `takes marker 8 {2} {30 [/a "x\n" 7] ["a b" "" -1]}`},
	} {
		is(t, "P18.5: the line of "+tell(x.told), run.ToldText(x.told), x.want)
	}
}

// holdsFault holds that Play refuses a script.
func holdsFault(t *testing.T, script string, code api.Errno, line int) {
	t.Helper()
	told, history, err := run.Play(script)
	var f *api.Fault
	switch {
	case told != nil || history != nil:
		t.Errorf("P18.4: Play(%s), which is refused, tells %s, %s", short(script), tell(told), tell(history))
	case err == nil || !errors.As(err, &f) || !errors.Is(err, api.WhyScript) || errors.Is(err, api.WhyStep):
		t.Errorf("P18.4: Play(%s) says %v", short(script), err)
	case err != error(f) || *f != (api.Fault{Why: api.WhyScript, Code: code, Line: line}):
		t.Errorf("P18.4: Play(%s) says %+v, want %d, %d", short(script), *f, code, line)
	}
}

// TestPlayFaults: P18.4, what Parse or world.New refuses.
func TestPlayFaults(t *testing.T) {
	holdsFault(t, "", api.ErrScript, 0)
	holdsFault(t, "x", api.ErrScript, 1)
	holdsFault(t, head+"begin 1\ntick", api.ErrScript, 3)
	holdsFault(t, head+strings.Repeat(" ", api.MaxText), api.ErrLong, 0)
	holdsFault(t, head+strings.Repeat("tick 1\n", api.MaxSteps+1), api.ErrLong, api.MaxSteps+2)
	holdsFault(t, "world nodes 0 clients 0 queue 0 ring 0 window 0 lease 0\ntick", api.ErrScript, 2)
	holdsFault(t, "world nodes 0 clients 0 queue 0 ring 0 window 0 lease 0\nbegin 1", api.ErrArg, 0)
	holdsFault(t, "\n\nworld nodes 6 clients 1 queue 1 ring 1 window 1 lease 0", api.ErrArg, 0)
}

// TestPlay: P18.4, all steps are played, those that are refused too; each told thing has its step's number and its client.
func TestPlay(t *testing.T) {
	told, history, err := run.Play(head)
	if len(told) > 0 || len(history) > 0 || err != nil {
		t.Errorf("P18.4: Play of no steps = %v, %v, %v", told, history, err)
	}
	lines := []string{"begin 1", "begin 1", "tick 9", "# no step", "", "calm 6", "do 1 get /a", "crash 9", "calm 4"}
	told, history, err = run.Play(script(lines...))
	get := []api.Op{gets("/a")}
	is(t, "P18.4: what Play tells", told, []api.Told{
		{Step: 0, Client: 1, Kind: api.ToldBegin, Session: 1}, {Step: 3, Client: 1, Kind: api.ToldBegun, Session: 1}, {Step: 4, Client: 1, Kind: api.ToldCall, Session: 1, Request: 1, Ops: get},
		{Step: 6, Client: 1, Kind: api.ToldReply, Session: 1, Request: 1, Stamp: 2, Reply: api.Reply{Stamp: 2, Code: api.ErrNoNode}},
	})
	is(t, "P18.4: the history that Play tells", history, []api.Entry{{Stamp: 1, View: 1, Kind: api.EntryOpen, Session: 1}, {Stamp: 2, View: 1, Kind: api.EntryRequest, Session: 1, Request: 1, Ops: get}})
	if err != nil {
		t.Errorf("P18.4: Play says %v", err)
	}
}
