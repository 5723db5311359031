package run

import (
	"strconv"
	"strings"

	"herald/api"
	"herald/world"
)

// transcript is what is written of a play so far.
type transcript struct{ strings.Builder }

func (t *transcript) line(pieces ...string) {
	for _, piece := range pieces {
		t.WriteString(piece)
	}
	t.WriteByte('\n')
}

// step plays a step, and writes it and what it told.
func (t *transcript) step(w *world.World, number int, s api.Step) {
	told, code := w.Step(s)
	refused := ""
	if code != api.OK {
		refused = " refused " + errnoText(code)
	}
	t.line(strconv.Itoa(number), ": ", stepText(s), refused)
	for _, x := range told {
		t.line("  client ", strconv.Itoa(x.Client), " ", toldText(x))
	}
}

func (t *transcript) history(entries []api.Entry) {
	t.line("history ", strconv.Itoa(len(entries)))
	for _, e := range entries {
		t.line("  ", strconv.Itoa(e.Stamp), " view ", strconv.Itoa(e.View), " ", entryText(e))
	}
}

// client writes what a client sees.
func (t *transcript) client(w *world.World, number int) {
	pictures, _ := w.Pictures(number)
	var parts strings.Builder
	for _, p := range pictures {
		parts.WriteString(" {" + strconv.Itoa(p.Id) + " at " + strconv.Itoa(p.Shot.Stamp) + nodesText(p.Shot.Nodes) + "}")
	}
	t.line("client ", strconv.Itoa(number), " sees", parts.String())
}

// toldRow is how told things of a kind are written.
type toldRow struct {
	kind int
	text func(x api.Told) string
}

func toldRows() []toldRow {
	return []toldRow{
		{api.ToldBegin, sessionText("begins ")},
		{api.ToldBegun, sessionText("has ")},
		{api.ToldEnd, sessionText("ends ")},
		{api.ToldGone, sessionText("is without ")},
		{api.ToldCall, callText},
		{api.ToldReply, replyText},
		{api.ToldWatch, askedText},
		{api.ToldUnwatch, givenUpText},
		{api.ToldWatched, grantedText},
		{api.ToldItem, itemText},
	}
}

// toldText is what is written of a told thing behind its client's number.
func toldText(x api.Told) string {
	for _, row := range toldRows() {
		if row.kind == x.Kind {
			return row.text(x)
		}
	}
	return ""
}

func sessionText(what string) func(api.Told) string {
	return func(x api.Told) string { return what + strconv.Itoa(x.Session) }
}

func callText(x api.Told) string {
	return "calls " + requestText(x.Session, x.Request) + " " + opsText(x.Ops...)
}

func replyText(x api.Told) string {
	text := "hears " + requestText(x.Session, x.Request) + " at " + strconv.Itoa(x.Stamp)
	if x.Reply.Code != api.OK {
		return text + " refused " + errnoText(x.Reply.Code) + " at " + strconv.Itoa(x.Reply.At)
	}
	for _, r := range x.Reply.Results {
		text += resultText(r)
	}
	return text
}

func resultText(r api.Result) string {
	text := " [" + placeText(r.Place) + " " + quoted(r.Data)
	for _, number := range []int{r.Version, r.Made, r.Changed, r.Owner} {
		text += " " + strconv.Itoa(number)
	}
	for _, kid := range r.Kids {
		text += " " + kid
	}
	return text + "]"
}

func askedText(x api.Told) string {
	return "asks for " + strconv.Itoa(x.Watch.Id) + " " + placeText(x.Watch.Place) + " " + watchText(x.Watch.Kind)
}

func givenUpText(x api.Told) string { return "gives up " + strconv.Itoa(x.Watch.Id) }

func grantedText(x api.Told) string {
	if x.Code != api.OK {
		return "is refused " + strconv.Itoa(x.Watch.Id) + " " + errnoText(x.Code)
	}
	return "is granted " + strconv.Itoa(x.Watch.Id) + " at " + strconv.Itoa(x.Part.Shot.Stamp) + nodesText(x.Part.Shot.Nodes)
}

func itemText(x api.Told) string {
	if x.Item.Marker {
		return markerText(x.Item)
	}
	text := "takes " + strconv.Itoa(x.Item.Stamp)
	for _, c := range x.Item.Changes {
		text += changeText(c)
	}
	return text
}

func markerText(marker api.Item) string {
	text := "takes marker " + strconv.Itoa(marker.Stamp)
	for _, p := range marker.Parts {
		text += " {" + strconv.Itoa(p.Id) + nodesText(p.Shot.Nodes) + "}"
	}
	return text
}

func changeText(c api.Tagged) string {
	text := " [" + changeName(c.Change.Kind) + " " + placeText(c.Change.Place) + " " + quoted(c.Change.Data) + " " + strconv.Itoa(c.Change.Version) + ":"
	for _, tag := range c.Tags {
		text += " " + strconv.Itoa(tag)
	}
	return text + "]"
}

func changeName(kind int) string {
	switch kind {
	case api.ChangeMade:
		return "made"
	case api.ChangeSet:
		return "set"
	}
	return "gone"
}

func entryText(e api.Entry) string {
	switch e.Kind {
	case api.EntryOpen:
		return "open " + strconv.Itoa(e.Session)
	case api.EntryClose:
		return "close " + strconv.Itoa(e.Session)
	case api.EntryExpire:
		return "expire " + strconv.Itoa(e.Session)
	}
	return "request " + requestText(e.Session, e.Request) + " " + opsText(e.Ops...)
}

func nodesText(nodes []api.Seen) string {
	text := ""
	for _, n := range nodes {
		text += " [" + placeText(n.Place) + " " + quoted(n.Data) + " " + strconv.Itoa(n.Version) + "]"
	}
	return text
}

func requestText(session, request int) string {
	return strconv.Itoa(session) + "." + strconv.Itoa(request)
}

func errnoText(code api.Errno) string { return strconv.Itoa(int(code)) }
