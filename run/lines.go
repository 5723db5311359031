package run

import (
	"slices"

	"herald/api"
)

// part is what a line may want behind its first word.
type part int

const (
	partA part = iota
	partB
	partC
	partPlace
	partWatch // the kind of a watch, as B
	partOps
	partData
	partVersion
	partFlags
)

// shape is what the line of a step, or an op, looks like: its first word, and what stands behind that, in order.
type shape struct {
	name  string
	kind  int
	parts []part
}

func stepShapes() []shape {
	return []shape{
		{"deliver", api.StepDeliver, []part{partA}},
		{"drop", api.StepDrop, []part{partA}},
		{"double", api.StepDouble, []part{partA}},
		{"spoil", api.StepSpoil, []part{partA, partB, partC}},
		{"tick", api.StepTick, []part{partA}},
		{"crash", api.StepCrash, []part{partA}},
		{"within", api.StepWithin, []part{partA, partB}},
		{"restart", api.StepRestart, []part{partA}},
		{"promote", api.StepPromote, []part{partA, partB}},
		{"save", api.StepSave, []part{partA}},
		{"calm", api.StepCalm, []part{partA}},
		{"begin", api.StepBegin, []part{partA}},
		{"end", api.StepEnd, []part{partA}},
		{"unwatch", api.StepUnwatch, []part{partA, partB}},
		{"watch", api.StepWatch, []part{partA, partPlace, partWatch}},
		{"do", api.StepDo, []part{partA, partOps}},
	}
}

func opShapes() []shape {
	return []shape{
		{"make", api.OpMake, []part{partPlace, partData, partFlags}},
		{"set", api.OpSet, []part{partPlace, partData, partVersion}},
		{"drop", api.OpDrop, []part{partPlace, partVersion}},
		{"check", api.OpCheck, []part{partPlace, partVersion}},
		{"get", api.OpGet, []part{partPlace}},
		{"look", api.OpLook, []part{partPlace}},
		{"list", api.OpList, []part{partPlace}},
	}
}

// firstWord is that of a script.
const firstWord = "world"

// ruleNames are the words of the world's line, each ahead of its number.
var ruleNames = [...]string{"nodes", "clients", "queue", "ring", "window", "lease"}

// watchNames are the words of the kinds of watches.
var watchNames = [...]string{api.WatchNode: "node", api.WatchKids: "kids", api.WatchSubtree: "subtree"}

// flagName is the word of a flag.
type flagName struct {
	name string
	flag int
}

// flagNames stand in the order that they have in a line.
var flagNames = [...]flagName{{"brief", api.FlagBrief}, {"counted", api.FlagCounted}}

// numbersOf are the numbers of rules, in the order of ruleNames.
func numbersOf(rules *api.Rules) []*int {
	return []*int{&rules.Nodes, &rules.Clients, &rules.Queue, &rules.Ring, &rules.Window, &rules.Lease}
}

// worldLine reads a script's first line.
func (r *reader) worldLine() api.Rules {
	var rules api.Rules
	r.mustBe(firstWord)
	for i, number := range numbersOf(&rules) {
		r.mustBe(ruleNames[i])
		*number = r.number()
	}
	r.mustEnd()
	return rules
}

// stepLine reads the line of a step.
func (r *reader) stepLine() api.Step {
	s := r.step(r.shape(stepShapes()))
	r.mustEnd()
	return s
}

func (r *reader) step(line shape) api.Step {
	s := api.Step{Kind: line.kind}
	for _, p := range line.parts {
		switch p {
		case partA:
			s.A = r.number()
		case partB:
			s.B = r.number()
		case partC:
			s.C = r.number()
		case partPlace:
			s.Place = r.place()
		case partWatch:
			s.B = r.watchKind()
		case partOps:
			s.Ops = r.ops()
		}
	}
	return s
}

// ops reads those of a request, to the line's end.
func (r *reader) ops() []api.Op {
	ops := []api.Op{r.op(r.shape(opShapes()))}
	for !r.isAtEnd() && len(ops) < api.MaxOps {
		r.take(semicolon)
		ops = append(ops, r.op(r.shape(opShapes())))
	}
	return ops
}

func (r *reader) op(line shape) api.Op {
	o := api.Op{Kind: line.kind}
	for _, p := range line.parts {
		switch p {
		case partPlace:
			o.Place = r.place()
		case partData:
			o.Data = short(r.take(quotedWord).text)
		case partVersion:
			o.Version = r.number()
		case partFlags:
			o.Flags = r.flags()
		}
	}
	return o
}

// shape is that which begins with the word at which the reader is.
func (r *reader) shape(shapes []shape) shape {
	name := r.take(nameWord).text
	at := slices.IndexFunc(shapes, func(s shape) bool { return s.name == name })
	if at < 0 {
		giveUp()
	}
	return shapes[at]
}

func (r *reader) number() int { return r.take(numberWord).number }

func (r *reader) place() string {
	kind := placeWord
	if r.word.kind == quotedWord {
		kind = quotedWord
	}
	return short(r.take(kind).text)
}

func (r *reader) watchKind() int {
	text := r.take(nameWord).text
	for kind, name := range watchNames {
		if name == text {
			return kind
		}
	}
	giveUp()
	return 0
}

func (r *reader) flags() int {
	flags := 0
	for _, row := range flagNames {
		if r.word.kind == nameWord && r.word.text == row.name {
			flags |= row.flag
			r.advance()
		}
	}
	return flags
}

func (r *reader) mustBe(name string) {
	if r.take(nameWord).text != name {
		giveUp()
	}
}

func (r *reader) mustEnd() {
	if !r.isAtEnd() {
		giveUp()
	}
}

// short is a text that is not too long for a line.
func short(text string) string {
	if len(text) > api.MaxRaw {
		giveUp()
	}
	return text
}
