package world_test

import (
	"fmt"
	"strconv"
	"strings"
	"testing"

	"herald/api"
	"herald/world"
)

// transcript is one of the document's ten examples of the whole: what is played, and all that is told of it.
type transcript struct {
	rules api.Rules
	text  string
}

func transcripts() []transcript {
	return []transcript{
		{api.Rules{Nodes: 1, Clients: 1, Queue: 2, Ring: 8, Window: 1, Lease: 0}, `0: begin 1
  client 1 begins 1
1: calm 4
  client 1 has 1
2: do 1 make /a "x" ; make /a ""
  client 1 calls 1.1 make /a "x" ; make /a ""
3: calm 2
  client 1 hears 1.1 at 2 refused 41 at 1
4: do 1 make /a/n "" counted ; make /a "x"
  client 1 calls 1.2 make /a/n "" counted ; make /a "x"
5: calm 2
  client 1 hears 1.2 at 3 refused 40 at 0
6: do 1 make /a "x" ; make /a/n "" counted ; make /a/n "" counted ; list /a
  client 1 calls 1.3 make /a "x" ; make /a/n "" counted ; make /a/n "" counted ; list /a
7: calm 2
  client 1 hears 1.3 at 4 [/a "" 0 4 4 0] [/a/n00000 "" 0 4 4 0] [/a/n00001 "" 0 4 4 0] [/a "" 0 4 4 0 n00000 n00001]
history 4
  1 view 1 open 1
  2 view 1 request 1.1 make /a "x" ; make /a ""
  3 view 1 request 1.2 make /a/n "" counted ; make /a "x"
  4 view 1 request 1.3 make /a "x" ; make /a/n "" counted ; make /a/n "" counted ; list /a
client 1 sees
`},
		{api.Rules{Nodes: 1, Clients: 1, Queue: 2, Ring: 8, Window: 1, Lease: 0}, `0: begin 1
  client 1 begins 1
1: calm 4
  client 1 has 1
2: do 1 make /n "" counted
  client 1 calls 1.1 make /n "" counted
3: double 0
4: calm 2
  client 1 hears 1.1 at 2 [/n00000 "" 0 2 2 0]
history 2
  1 view 1 open 1
  2 view 1 request 1.1 make /n "" counted
client 1 sees
`},
		{api.Rules{Nodes: 1, Clients: 1, Queue: 2, Ring: 8, Window: 1, Lease: 0}, `0: begin 1
  client 1 begins 1
1: calm 4
  client 1 has 1
2: do 1 make /a ""
  client 1 calls 1.1 make /a ""
3: within 0 -1
4: restart 1
5: calm 4
  client 1 hears 1.1 at 2 [/a "" 0 2 2 0]
history 2
  1 view 1 open 1
  2 view 1 request 1.1 make /a ""
client 1 sees
`},
		{api.Rules{Nodes: 1, Clients: 1, Queue: 2, Ring: 8, Window: 1, Lease: 0}, `0: begin 1
  client 1 begins 1
1: calm 4
  client 1 has 1
2: do 1 make /a ""
  client 1 calls 1.1 make /a ""
3: within 0 3
4: restart 1
5: calm 4
  client 1 hears 1.1 at 2 [/a "" 0 2 2 0]
history 2
  1 view 1 open 1
  2 view 1 request 1.1 make /a ""
client 1 sees
`},
		{api.Rules{Nodes: 1, Clients: 1, Queue: 2, Ring: 8, Window: 1, Lease: 0}, `0: begin 1
  client 1 begins 1
1: calm 4
  client 1 has 1
2: watch 1 / kids
  client 1 asks for 1 / kids
3: watch 1 /a node
  client 1 asks for 2 /a node
4: calm 2
  client 1 is granted 1 at 1 [/ "" 0]
  client 1 is granted 2 at 1
5: do 1 make /a "x" ; make /a/b ""
  client 1 calls 1.1 make /a "x" ; make /a/b ""
6: calm 2
  client 1 hears 1.1 at 2 [/a "" 0 2 2 0] [/a/b "" 0 2 2 0]
  client 1 takes 2 [made /a "x" 0: 1 2]
7: do 1 set /a "y" -1
  client 1 calls 1.2 set /a "y" -1
8: calm 2
  client 1 hears 1.2 at 3 [/a "" 1 2 3 0]
  client 1 takes 3 [set /a "y" 1: 2]
history 3
  1 view 1 open 1
  2 view 1 request 1.1 make /a "x" ; make /a/b ""
  3 view 1 request 1.2 set /a "y" -1
client 1 sees {1 at 3 [/ "" 0] [/a "" 0]} {2 at 3 [/a "y" 1]}
`},
		{api.Rules{Nodes: 1, Clients: 2, Queue: 1, Ring: 8, Window: 1, Lease: 0}, `0: begin 1
  client 1 begins 1
1: begin 2
  client 2 begins 2
2: calm 4
  client 1 has 1
  client 2 has 2
3: watch 1 / subtree
  client 1 asks for 1 / subtree
4: calm 2
  client 1 is granted 1 at 2 [/ "" 0]
5: do 2 make /a "1"
  client 2 calls 2.1 make /a "1"
6: deliver 0
7: deliver 0
  client 2 hears 2.1 at 3 [/a "" 0 3 3 0]
8: do 2 set /a "2" -1
  client 2 calls 2.2 set /a "2" -1
9: deliver 1
10: deliver 1
  client 2 hears 2.2 at 4 [/a "" 1 3 4 0]
11: drop 0
12: calm 2
  client 1 takes marker 4 {1 [/ "" 0] [/a "2" 1]}
history 4
  1 view 1 open 1
  2 view 1 open 2
  3 view 1 request 2.1 make /a "1"
  4 view 1 request 2.2 set /a "2" -1
client 1 sees {1 at 4 [/ "" 0] [/a "2" 1]}
client 2 sees
`},
		{api.Rules{Nodes: 2, Clients: 1, Queue: 2, Ring: 8, Window: 1, Lease: 0}, `0: begin 1
  client 1 begins 1
1: calm 6
  client 1 has 1
2: do 1 make /a "x"
  client 1 calls 1.1 make /a "x"
3: calm 4
  client 1 hears 1.1 at 2 [/a "" 0 2 2 0]
4: crash 1
5: promote 2 0
6: do 1 get /a
  client 1 calls 1.2 get /a
7: calm 6
  client 1 hears 1.2 at 3 [/a "x" 0 2 2 0]
history 3
  1 view 1 open 1
  2 view 1 request 1.1 make /a "x"
  3 view 2 request 1.2 get /a
client 1 sees
`},
		{api.Rules{Nodes: 1, Clients: 1, Queue: 2, Ring: 8, Window: 1, Lease: 0}, `0: begin 1
  client 1 begins 1
1: calm 4
  client 1 has 1
2: watch 1 / subtree
  client 1 asks for 1 / subtree
3: calm 2
  client 1 is granted 1 at 1 [/ "" 0]
4: do 1 make /a "x"
  client 1 calls 1.1 make /a "x"
5: deliver 0
6: deliver 0
  client 1 hears 1.1 at 2 [/a "" 0 2 2 0]
7: drop 0
8: save 1
9: crash 1
10: restart 1
11: calm 4
  client 1 takes marker 2 {1 [/ "" 0] [/a "x" 0]}
history 2
  1 view 1 open 1
  2 view 1 request 1.1 make /a "x"
client 1 sees {1 at 2 [/ "" 0] [/a "x" 0]}
`},
		{api.Rules{Nodes: 1, Clients: 2, Queue: 2, Ring: 8, Window: 1, Lease: 0}, `0: begin 1
  client 1 begins 1
1: begin 2
  client 2 begins 2
2: calm 4
  client 1 has 1
  client 2 has 2
3: watch 2 / kids
  client 2 asks for 1 / kids
4: do 1 make /b "" brief
  client 1 calls 1.1 make /b "" brief
5: calm 3
  client 2 is granted 1 at 2 [/ "" 0]
  client 1 hears 1.1 at 3 [/b "" 0 3 3 1]
  client 2 takes 3 [made /b "" 0: 1]
6: end 1
  client 1 ends 1
7: calm 3
  client 1 is without 1
  client 2 takes 4 [gone /b "" 0: 1]
8: begin 1
  client 1 begins 17
9: calm 3
  client 1 has 17
history 5
  1 view 1 open 1
  2 view 1 open 2
  3 view 1 request 1.1 make /b "" brief
  4 view 1 close 1
  5 view 1 open 17
client 1 sees
client 2 sees {1 at 4 [/ "" 0]}
`},
		{api.Rules{Nodes: 1, Clients: 2, Queue: 2, Ring: 8, Window: 1, Lease: 2}, `0: begin 1
  client 1 begins 1
1: begin 2
  client 2 begins 2
2: calm 4
  client 1 has 1
  client 2 has 2
3: do 1 make /b "" brief
  client 1 calls 1.1 make /b "" brief
4: calm 2
  client 1 hears 1.1 at 3 [/b "" 0 3 3 1]
5: tick 1
6: tick 1
7: tick 1
8: drop 0
9: drop 0
10: drop 0
11: drop 0
12: drop 0
13: drop 0
14: drop 0
15: drop 0
16: calm 3
  client 1 is without 1
  client 2 is without 2
history 5
  1 view 1 open 1
  2 view 1 open 2
  3 view 1 request 1.1 make /b "" brief
  4 view 1 expire 1
  5 view 1 expire 2
client 1 sees
client 2 sees
`},
	}
}

// words are those of a step's line: names, numbers, places, and quoted texts.
func words(line string) []string {
	var all []string
	for line = strings.TrimSpace(line); line != ""; line = strings.TrimSpace(line) {
		end := strings.IndexByte(line+" ", ' ')
		if line[0] == '"' {
			end = strings.IndexByte(line[1:], '"') + 2
		}
		all, line = append(all, line[:end]), line[end:]
	}
	return all
}

func number(word string) int {
	n, _ := strconv.Atoi(word)
	return n
}

// stepIn reads a step's line.
func stepIn(line string) api.Step {
	w := words(line)
	s := api.Step{}
	names := []string{"", "deliver", "drop", "double", "spoil", "tick", "crash", "within", "restart", "promote", "save", "do", "watch", "unwatch", "begin", "end", "calm"}
	for kind, name := range names {
		if name == w[0] {
			s.Kind = kind
		}
	}
	s.A = number(w[1])
	switch s.Kind {
	case api.StepDo:
		for _, op := range strings.Split(strings.Join(w[2:], " "), " ; ") {
			s.Ops = append(s.Ops, opIn(words(op)))
		}
	case api.StepWatch:
		s.Place, s.B = w[2], map[string]int{"node": 1, "kids": 2, "subtree": 3}[w[3]]
	default:
		w = append(w, "0", "0")
		s.B, s.C = number(w[2]), number(w[3])
	}
	return s
}

func opIn(w []string) api.Op {
	o := api.Op{Place: w[1]}
	o.Kind = map[string]int{"make": 1, "set": 2, "drop": 3, "check": 4, "get": 5, "look": 6, "list": 7}[w[0]]
	if o.Kind <= api.OpSet {
		o.Data = strings.Trim(w[2], `"`)
	}
	if o.Kind == api.OpSet {
		o.Version = number(w[3])
	}
	for _, flag := range w[2:] {
		o.Flags += map[string]int{"brief": api.FlagBrief, "counted": api.FlagCounted}[flag]
	}
	return o
}

func opsLine(ops []api.Op) string {
	var all []string
	for _, o := range ops {
		line := []string{"", "make", "set", "drop", "check", "get", "look", "list"}[o.Kind] + " " + o.Place
		if o.Kind <= api.OpSet {
			line += fmt.Sprintf(" %q", o.Data)
		}
		if o.Kind == api.OpSet {
			line += fmt.Sprintf(" %d", o.Version)
		}
		line += []string{"", " brief", " counted", " brief counted"}[o.Flags]
		all = append(all, line)
	}
	return strings.Join(all, " ; ")
}

func nodesLine(nodes []api.Seen) string {
	line := ""
	for _, n := range nodes {
		line += fmt.Sprintf(" [%s %q %d]", n.Place, n.Data, n.Version)
	}
	return line
}

// toldLine tells something as the document's examples do.
func toldLine(k api.Told) string {
	switch k.Kind {
	case api.ToldCall:
		return fmt.Sprintf("calls %d.%d %s", k.Session, k.Request, opsLine(k.Ops))
	case api.ToldReply:
		line := fmt.Sprintf("hears %d.%d at %d", k.Session, k.Request, k.Stamp)
		if k.Reply.Code != api.OK {
			return line + fmt.Sprintf(" refused %d at %d", k.Reply.Code, k.Reply.At)
		}
		for _, r := range k.Reply.Results {
			line += fmt.Sprintf(" [%s]", strings.TrimSpace(fmt.Sprintf("%s %q %d %d %d %d %s", r.Place, r.Data, r.Version, r.Made, r.Changed, r.Owner, strings.Join(r.Kids, " "))))
		}
		return line
	case api.ToldWatch:
		return fmt.Sprintf("asks for %d %s %s", k.Watch.Id, k.Watch.Place, []string{"", "node", "kids", "subtree"}[k.Watch.Kind])
	case api.ToldWatched:
		return fmt.Sprintf("is granted %d at %d%s", k.Watch.Id, k.Stamp, nodesLine(k.Part.Shot.Nodes))
	case api.ToldItem:
		return itemLine(k.Item)
	}
	return fmt.Sprintf("%s %d", map[int]string{6: "begins", 7: "has", 8: "ends", 9: "is without"}[k.Kind], k.Session)
}

func itemLine(i api.Item) string {
	if i.Marker {
		line := fmt.Sprintf("takes marker %d", i.Stamp)
		for _, p := range i.Parts {
			line += fmt.Sprintf(" {%d%s}", p.Id, nodesLine(p.Shot.Nodes))
		}
		return line
	}
	line := fmt.Sprintf("takes %d", i.Stamp)
	for _, c := range i.Changes {
		line += fmt.Sprintf(" [%s %s %q %d: %s]", []string{"", "made", "set", "gone"}[c.Change.Kind], c.Change.Place, c.Change.Data, c.Change.Version, strings.Trim(fmt.Sprint(c.Tags), "[]"))
	}
	return line
}

func entryLine(e api.Entry) string {
	line := fmt.Sprintf("  %d view %d ", e.Stamp, e.View)
	if e.Kind == api.EntryRequest {
		return line + fmt.Sprintf("request %d.%d %s\n", e.Session, e.Request, opsLine(e.Ops))
	}
	return line + fmt.Sprintf("%s %d\n", []string{"", "", "open", "close", "expire"}[e.Kind], e.Session)
}

// written is what a world has become, as the document's examples tell it.
func written(w *world.World, clients int) string {
	history := w.History()
	text := fmt.Sprintf("history %d\n", len(history))
	for _, e := range history {
		text += entryLine(e)
	}
	for k := 1; k <= clients; k++ {
		text += fmt.Sprintf("client %d sees", k)
		pictures, _ := w.Pictures(k)
		for _, p := range pictures {
			text += fmt.Sprintf(" {%d at %d%s}", p.Id, p.Shot.Stamp, nodesLine(p.Shot.Nodes))
		}
		text += "\n"
	}
	return text
}

// TestTranscripts: P17.4 to P17.7, the document's ten examples of the whole.
func TestTranscripts(t *testing.T) {
	for i, example := range transcripts() {
		w, text := begun(t, example.rules), ""
		for _, line := range strings.Split(example.text, "\n") {
			count, step, isStep := strings.Cut(line, ": ")
			if _, err := strconv.Atoi(count); err != nil || !isStep {
				continue
			}
			text += line + "\n"
			told, code := w.Step(stepIn(step))
			if code != api.OK {
				t.Errorf("example %d: %s is refused with %d", i+1, line, code)
			}
			for _, k := range told {
				if strconv.Itoa(k.Step) != count {
					t.Errorf("example %d: the step %s tells %s", i+1, count, tell(k))
				}
				text += fmt.Sprintf("  client %d %s\n", k.Client, toldLine(k))
			}
		}
		if text += written(w, example.rules.Clients); text != example.text {
			t.Errorf("example %d is\n%s\nwant\n%s", i+1, text, example.text)
		}
	}
}
