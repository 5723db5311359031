package client_test

import (
	"fmt"
	"math"
	"math/rand/v2"
	"reflect"
	"runtime/debug"
	"slices"
	"testing"

	"herald/api"
	"herald/client"
	"herald/note"
)

// TestMain: little is held at any time, so that without this half of the time would go by collecting garbage.
func TestMain(m *testing.M) {
	debug.SetGCPercent(800)
	m.Run()
}

const most = api.MaxNumber

// ends are numbers at and around the ends of what a number, a version and an int can be.
func ends() []int {
	return []int{math.MinInt, math.MinInt + 1, -1 << 32, -most - 1, -most, -2, -1, 0, 1, 2, 3, 4, 5, most - 1, most, most + 1, 1 << 32, 1<<32 + 1, math.MaxInt - 1, math.MaxInt}
}

func viewOf(num, primary, backup int) api.View {
	return api.View{Num: num, Primary: primary, Backup: backup}
}

// What a client sends:

func asks() api.Note { return api.Note{Kind: api.NoteAsk} }

func opens(session int) api.Note { return api.Note{Kind: api.NoteOpen, Session: session} }

func closes(session int) api.Note { return api.Note{Kind: api.NoteClose, Session: session} }

func beats(session, conn int) api.Note {
	return api.Note{Kind: api.NoteBeat, Session: session, Conn: conn}
}

func calls(session, request int, ops ...api.Op) api.Note {
	return api.Note{Kind: api.NoteCall, Session: session, Request: request, Ops: ops}
}

func resumes(session, conn, stamp int, watches ...api.Watch) api.Note {
	return api.Note{Kind: api.NoteResume, Session: session, Conn: conn, Stamp: stamp, Watches: watches}
}

func watches(session, conn int, w api.Watch) api.Note {
	return api.Note{Kind: api.NoteWatch, Session: session, Conn: conn, Watches: []api.Watch{w}}
}

func unwatches(session, conn, id int) api.Note {
	return api.Note{Kind: api.NoteUnwatch, Session: session, Conn: conn, Watches: []api.Watch{{Id: id}}}
}

func took(session, conn, stamp int) api.Note {
	return api.Note{Kind: api.NoteTook, Session: session, Conn: conn, Stamp: stamp}
}

// What a client is sent:

func noteOf(kind, num int) api.Note { return api.Note{Kind: kind, View: api.View{Num: num}} }

func tells(num, primary, backup int) api.Note {
	return api.Note{Kind: api.NoteTell, View: viewOf(num, primary, backup)}
}

func elsewhere(num, primary, backup int) api.Note {
	return api.Note{Kind: api.NoteElsewhere, View: viewOf(num, primary, backup)}
}

func opened(num, session int, code api.Errno) api.Note {
	n := noteOf(api.NoteOpened, num)
	n.Session, n.Code = session, code
	return n
}

func gone(num, session int) api.Note {
	n := noteOf(api.NoteGone, num)
	n.Session = session
	return n
}

func answers(num, session, request int, reply api.Reply) api.Note {
	n := noteOf(api.NoteAnswer, num)
	n.Session, n.Request, n.Reply = session, request, reply
	return n
}

func resumed(num, session, conn, stamp int, code api.Errno) api.Note {
	n := noteOf(api.NoteResumed, num)
	n.Session, n.Conn, n.Stamp, n.Code = session, conn, stamp, code
	return n
}

func watched(num, session, conn int, part api.Part) api.Note {
	n := noteOf(api.NoteWatched, num)
	n.Session, n.Conn, n.Stamp, n.Parts = session, conn, part.Shot.Stamp, []api.Part{part}
	return n
}

func refused(num, session, conn, id int, code api.Errno) api.Note {
	n := watched(num, session, conn, api.Part{Id: id})
	n.Code = code
	return n
}

func unwatched(num, session, conn, id int) api.Note {
	n := noteOf(api.NoteUnwatched, num)
	n.Session, n.Conn, n.Watches = session, conn, []api.Watch{{Id: id}}
	return n
}

func delivers(num, session, conn int, ids []int, items ...api.Item) api.Note {
	n := noteOf(api.NoteDeliver, num)
	n.Session, n.Conn, n.Items = session, conn, items
	for _, id := range ids {
		n.Watches = append(n.Watches, api.Watch{Id: id})
	}
	return n
}

// What these notes are made of:

func watch(id int, place string, kind, from int) api.Watch {
	return api.Watch{Id: id, Place: place, Kind: kind, From: from}
}

func seen(place, data string, version int) api.Seen {
	return api.Seen{Place: place, Data: data, Version: version}
}

func shotOf(stamp int, place string, kind int, nodes ...api.Seen) api.Shot {
	return api.Shot{Stamp: stamp, Place: place, Kind: kind, Nodes: nodes}
}

func part(id, stamp int, place string, kind int, nodes ...api.Seen) api.Part {
	return api.Part{Id: id, Shot: shotOf(stamp, place, kind, nodes...)}
}

func event(stamp, after int, changes ...api.Tagged) api.Item {
	return api.Item{Stamp: stamp, After: after, Changes: changes}
}

func marker(stamp, after int, parts ...api.Part) api.Item {
	return api.Item{Stamp: stamp, After: after, Marker: true, Parts: parts}
}

func made(place, data string, ids ...int) api.Tagged {
	return api.Tagged{Change: api.Change{Kind: api.ChangeMade, Place: place, Data: data}, Tags: ids}
}

func set(place, data string, version int, ids ...int) api.Tagged {
	return api.Tagged{Change: api.Change{Kind: api.ChangeSet, Place: place, Data: data, Version: version}, Tags: ids}
}

func dropped(place string, ids ...int) api.Tagged {
	return api.Tagged{Change: api.Change{Kind: api.ChangeGone, Place: place}, Tags: ids}
}

func gets(place string) api.Op { return api.Op{Kind: api.OpGet, Place: place} }

func sets(place, data string) api.Op {
	return api.Op{Kind: api.OpSet, Place: place, Data: data, Version: -1}
}

// What a client tells:

func told(kind, session int) api.Told { return api.Told{Kind: kind, Session: session} }

func toldCall(session, request int, ops ...api.Op) api.Told {
	t := told(api.ToldCall, session)
	t.Request, t.Ops = request, ops
	return t
}

func toldReply(session, request int, reply api.Reply) api.Told {
	t := told(api.ToldReply, session)
	t.Request, t.Reply, t.Stamp = request, reply, reply.Stamp
	return t
}

// toldOf is something told of a watch: that it is asked for, or given up.
func toldOf(kind, session int, w api.Watch) api.Told {
	t := told(kind, session)
	t.Watch = w
	return t
}

func toldGranted(session int, p api.Part) api.Told {
	t := told(api.ToldWatched, session)
	t.Stamp, t.Part = p.Shot.Stamp, p
	t.Watch = watch(p.Id, p.Shot.Place, p.Shot.Kind, p.Shot.Stamp)
	return t
}

func toldRefused(session int, w api.Watch, code api.Errno) api.Told {
	t := told(api.ToldWatched, session)
	t.Watch, t.Code = w, code
	return t
}

func toldItem(session int, item api.Item) api.Told {
	t := told(api.ToldItem, session)
	t.Stamp, t.Item = item.Stamp, item
	return t
}

func toldGone(session int, code api.Errno) api.Told {
	t := told(api.ToldGone, session)
	t.Code = code
	return t
}

func message(t *testing.T, from, to int, n api.Note) api.Message {
	t.Helper()
	m, code := note.Message(from, to, n)
	if code != api.OK {
		t.Fatalf("P3.6: Message(%d, %d, %s) says %d", from, to, tellFields(n), code)
	}
	return m
}

// answer is what a call answers.
type answer struct {
	told []api.Told
	sent []api.Message
	code api.Errno
}

func answerOf(told []api.Told, sent []api.Message, code api.Errno) answer {
	return answer{told, sent, code}
}

func quiet(told []api.Told, sent []api.Message) answer { return answer{told, sent, api.OK} }

func (a answer) is(b answer) bool {
	return a.code == b.code && slices.Equal(a.sent, b.sent) && same(a.told, b.told)
}

func (a answer) String() string {
	text := fmt.Sprint("code ", int(a.code))
	for _, t := range a.told {
		text += "\n  told " + tellFields(t)
	}
	for _, m := range a.sent {
		n, code := note.Open(m)
		if code != api.OK {
			text += fmt.Sprintf("\n  %d > %d: %d", m.From, m.To, code)
			continue
		}
		text += fmt.Sprintf("\n  %d > %d %s", m.From, m.To, tellFields(n))
	}
	return text
}

// life is a client that is played.
type life struct {
	t    *testing.T
	c    *client.Client
	self int // its address
}

func born(t *testing.T, number, nodes int) *life {
	t.Helper()
	c, code := client.New(number, nodes)
	if c == nil || code != api.OK {
		t.Fatalf("P15.1: New(%d, %d) says %d", number, nodes, code)
	}
	return &life{t, c, 100 + number}
}

// does holds that a call has told these things and sent these notes, each behind the address that it goes to.
func (l *life) does(what string, got answer, things ...any) {
	l.t.Helper()
	var want answer
	for i, thing := range things {
		switch x := thing.(type) {
		case api.Errno:
			want.code = x
		case api.Told:
			want.told = append(want.told, x)
		case api.Note:
			want.sent = append(want.sent, message(l.t, l.self, things[i-1].(int), x))
		}
	}
	if !got.is(want) {
		l.t.Errorf("%s: %s\nwant %s", what, got, want)
	}
}

func (l *life) takes(from int, n api.Note, things ...any) {
	l.t.Helper()
	l.does(fmt.Sprintf("P15.8: Take of %d > %d %s", from, l.self, tellFields(n)), l.take(from, n), things...)
}

func (l *life) take(from int, n api.Note) answer {
	l.t.Helper()
	return quiet(l.c.Take(message(l.t, from, l.self, n)))
}

func (l *life) begins(things ...any) {
	l.t.Helper()
	l.does("P15.2: Begin", answerOf(l.c.Begin()), things...)
}

func (l *life) calls(ops []api.Op, things ...any) {
	l.t.Helper()
	l.does("P15.3: Do of "+tell(ops), answerOf(l.c.Do(ops...)), things...)
}

func (l *life) watches(place string, kind int, things ...any) {
	l.t.Helper()
	l.does(fmt.Sprintf("P15.4: Watch(%.110q, %d)", place, kind), answerOf(l.c.Watch(place, kind)), things...)
}

func (l *life) unwatches(id int, things ...any) {
	l.t.Helper()
	l.does(fmt.Sprintf("P15.5: Unwatch(%d)", id), answerOf(l.c.Unwatch(id)), things...)
}

func (l *life) ends(things ...any) {
	l.t.Helper()
	l.does("P15.6: End", answerOf(l.c.End()), things...)
}

func (l *life) ticks(things ...any) {
	l.t.Helper()
	l.does("P15.7: Tick", quiet(l.c.Tick()), things...)
}

// shows holds what Session and Pictures say.
func (l *life) shows(session, last int, pictures ...api.Part) {
	l.t.Helper()
	if s, z := l.c.Session(); s != session || z != last {
		l.t.Errorf("P15.10: Session is %d, %d, want %d, %d", s, z, session, last)
	}
	if got := l.c.Pictures(); !same(got, pictures) {
		l.t.Errorf("P15.10: Pictures are %s, want %s", tell(got), tell(pictures))
	}
}

// conn is the present connection, as the client's beat says it; Tick itself changes nothing.
func (l *life) conn() int {
	l.t.Helper()
	_, sent := l.c.Tick()
	if len(sent) < 2 {
		l.t.Fatal("P15.7: no beat")
	}
	n, _ := note.Open(sent[1])
	return n.Conn
}

// same tells whether two values are the same; a nil list is the same as an empty one.
func same(a, b any) bool { return sameValue(reflect.ValueOf(a), reflect.ValueOf(b)) }

func sameValue(a, b reflect.Value) bool {
	switch a.Kind() {
	case reflect.Slice:
		if a.Len() != b.Len() {
			return false
		}
		for i := range a.Len() {
			if !sameValue(a.Index(i), b.Index(i)) {
				return false
			}
		}
		return true
	case reflect.Struct:
		for i := range a.NumField() {
			if !sameValue(a.Field(i), b.Field(i)) {
				return false
			}
		}
		return true
	}
	return a.Equal(b)
}

// tell is a value as a text that is not too long to be read.
func tell(v any) string { return fmt.Sprintf("%.900s", fmt.Sprintf("%+v", v)) }

// tellFields leaves out what a struct does not have.
func tellFields(of any) string {
	v, text := reflect.ValueOf(of), ""
	for i := range v.NumField() {
		if !v.Field(i).IsZero() {
			text += fmt.Sprintf(" %s %+v", v.Type().Field(i).Name, v.Field(i))
		}
	}
	return fmt.Sprintf("{%.700s}", text)
}

// chance makes the same calls in every run.
type chance struct{ *rand.Rand }

func chanceOf(seed, kind uint64) chance { return chance{rand.New(rand.NewPCG(seed, kind))} }

func pick[T any](c chance, from ...T) T { return from[c.IntN(len(from))] }
