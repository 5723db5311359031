package node_test

import (
	"bytes"
	"fmt"
	"math"
	"math/rand/v2"
	"reflect"
	"slices"
	"testing"

	"herald/api"
	"herald/journal"
	"herald/node"
	"herald/note"
	"herald/state"
	"herald/wire"
)

const most = api.MaxNumber

// ends are numbers at and around the ends of what a rule, an address, a stamp and an int can be.
func ends() []int {
	return []int{math.MinInt, math.MinInt + 1, -1 << 32, -most - 1, -most, -2, -1, 0, 1, 2, 3, 4, 5, 6, 7, 8, 9, 31, 32, 33, 63, 64, 65, 99, 100, 101, 102, 103, 106, 107, 999, 1000, 1001, most - 1, most, most + 1, 1 << 32, 1<<32 + 1, math.MaxInt - 1, math.MaxInt}
}

// alone and three are the rules of most tests.
var (
	alone = api.Rules{Nodes: 1, Clients: 2, Queue: 2, Ring: 4, Window: 2, Lease: 3}
	three = api.Rules{Nodes: 3, Clients: 2, Queue: 2, Ring: 4, Window: 2, Lease: 3}
)

func viewOf(num, primary, backup int) api.View {
	return api.View{Num: num, Primary: primary, Backup: backup}
}

// What a record says:

func entry(stamp, view int, e api.Entry) api.Record {
	e.Stamp, e.View = stamp, view
	return api.Record{Kind: api.RecordEntry, Entry: e}
}

func view(num, primary, backup int) api.Record {
	return api.Record{Kind: api.RecordView, View: viewOf(num, primary, backup)}
}

func matched(num int) api.Record {
	return api.Record{Kind: api.RecordMatched, View: api.View{Num: num}}
}

func reset(num, stamp, of int, text string) api.Record {
	return api.Record{Kind: api.RecordReset, View: api.View{Num: num}, Stamp: stamp, Of: of, State: text}
}

func save(stamp, of int, text string) api.Record {
	return api.Record{Kind: api.RecordSave, Stamp: stamp, Of: of, State: text}
}

func commit(stamp int) api.Record { return api.Record{Kind: api.RecordCommit, Stamp: stamp} }

// Entries, their stamps and views left out:

func opening(session int) api.Entry { return api.Entry{Kind: api.EntryOpen, Session: session} }

func closing(session int) api.Entry { return api.Entry{Kind: api.EntryClose, Session: session} }

func expiring(session int) api.Entry { return api.Entry{Kind: api.EntryExpire, Session: session} }

func asking(session, request int, ops ...api.Op) api.Entry {
	return api.Entry{Kind: api.EntryRequest, Session: session, Request: request, Ops: ops}
}

func makes(place string) api.Op { return api.Op{Kind: api.OpMake, Place: place, Data: "x"} }

func sets(place, data string) api.Op {
	return api.Op{Kind: api.OpSet, Place: place, Data: data, Version: -1}
}

func gets(place string) api.Op { return api.Op{Kind: api.OpGet, Place: place} }

// placed are entries of a view, behind a stamp.
func placed(stamp, view int, entries ...api.Entry) []api.Entry {
	var list []api.Entry
	for i, e := range entries {
		e.Stamp, e.View = stamp+1+i, view
		list = append(list, e)
	}
	return list
}

// What the service and other nodes send:

func tells(num, primary, backup int) api.Note {
	return api.Note{Kind: api.NoteTell, View: viewOf(num, primary, backup)}
}

func noteOf(kind, num int) api.Note { return api.Note{Kind: kind, View: api.View{Num: num}} }

func joins(num, stamp, of int) api.Note {
	n := noteOf(api.NoteJoin, num)
	n.Stamp, n.Of = stamp, of
	return n
}

func acks(num, stamp int) api.Note {
	n := noteOf(api.NoteAcked, num)
	n.Stamp = stamp
	return n
}

func appends(num, stamp, of, commit int, entries ...api.Entry) api.Note {
	n := noteOf(api.NoteAppend, num)
	n.Stamp, n.Of, n.Commit, n.Entries = stamp, of, commit, entries
	return n
}

func fills(num, stamp, of int, text string) api.Note {
	n := noteOf(api.NoteFull, num)
	n.Stamp, n.Of, n.State = stamp, of, text
	return n
}

func probes(num int) api.Note { return noteOf(api.NoteProbe, num) }

// What clients send:

func opens(session int) api.Note { return api.Note{Kind: api.NoteOpen, Session: session} }

func closes(session int) api.Note { return api.Note{Kind: api.NoteClose, Session: session} }

func calls(session, request int, ops ...api.Op) api.Note {
	return api.Note{Kind: api.NoteCall, Session: session, Request: request, Ops: ops}
}

func beats(session, conn int) api.Note {
	return api.Note{Kind: api.NoteBeat, Session: session, Conn: conn}
}

func resumes(session, conn, stamp int, watches ...api.Watch) api.Note {
	return api.Note{Kind: api.NoteResume, Session: session, Conn: conn, Stamp: stamp, Watches: watches}
}

func watches(session, conn int, w api.Watch) api.Note {
	return api.Note{Kind: api.NoteWatch, Session: session, Conn: conn, Watches: []api.Watch{w}}
}

func unwatches(session, conn, id int) api.Note {
	return api.Note{Kind: api.NoteUnwatch, Session: session, Conn: conn, Watches: []api.Watch{{Id: id}}}
}

func took(session, conn, stamp int) api.Note {
	return api.Note{Kind: api.NoteTook, Session: session, Conn: conn, Stamp: stamp}
}

func watch(id int, place string, kind int) api.Watch {
	return api.Watch{Id: id, Place: place, Kind: kind}
}

// What servers send to clients:

func opened(num, session int, code api.Errno) api.Note {
	n := noteOf(api.NoteOpened, num)
	n.Session, n.Code = session, code
	return n
}

func answers(num, session, request int, reply api.Reply) api.Note {
	n := noteOf(api.NoteAnswer, num)
	n.Session, n.Request, n.Reply = session, request, reply
	return n
}

func gone(num, session int) api.Note {
	n := noteOf(api.NoteGone, num)
	n.Session = session
	return n
}

func resumed(num, session, conn, stamp int, code api.Errno) api.Note {
	n := noteOf(api.NoteResumed, num)
	n.Session, n.Conn, n.Stamp, n.Code = session, conn, stamp, code
	return n
}

func watched(num, session, conn, stamp int, code api.Errno, part api.Part) api.Note {
	n := noteOf(api.NoteWatched, num)
	n.Session, n.Conn, n.Stamp, n.Code, n.Parts = session, conn, stamp, code, []api.Part{part}
	return n
}

func unwatched(num, session, conn, id int) api.Note {
	n := noteOf(api.NoteUnwatched, num)
	n.Session, n.Conn, n.Watches = session, conn, []api.Watch{{Id: id}}
	return n
}

func delivers(num, session, conn int, ids []int, items ...api.Item) api.Note {
	n := noteOf(api.NoteDeliver, num)
	n.Session, n.Conn, n.Items = session, conn, items
	for _, id := range ids {
		n.Watches = append(n.Watches, api.Watch{Id: id})
	}
	return n
}

func elsewhere(v api.View) api.Note { return api.Note{Kind: api.NoteElsewhere, View: v} }

// To the service:

func asks() api.Note { return api.Note{Kind: api.NoteAsk} }

func settles(num int) api.Note { return noteOf(api.NoteSettled, num) }

// event is the item of an entry's changes, all of which are for the same watches.
func event(stamp, after int, ids []int, changes ...api.Change) api.Item {
	item := api.Item{Stamp: stamp, After: after}
	for _, c := range changes {
		item.Changes = append(item.Changes, api.Tagged{Change: c, Tags: ids})
	}
	return item
}

func made(place string) api.Change {
	return api.Change{Kind: api.ChangeMade, Place: place, Data: "x"}
}

// fine is the reply to a request that made these nodes.
func fine(stamp int, places ...string) api.Reply {
	r := api.Reply{Stamp: stamp}
	for _, place := range places {
		r.Results = append(r.Results, api.Result{Place: place, Made: stamp, Changed: stamp})
	}
	return r
}

// played is a machine that has played entries of the view 1.
func played(entries ...api.Entry) *state.Machine {
	m := state.New()
	for _, e := range placed(0, 1, entries...) {
		m.Apply(e)
	}
	return m
}

// machineAt is a machine without a node but the root and without sessions, at a stamp.
func machineAt(stamp int) *state.Machine {
	number, _ := wire.Number(stamp)
	m, _ := state.Thaw(string(number) + state.New().Freeze()[1:])
	return m
}

// disk is what a journal has of these records.
func disk(t *testing.T, records ...api.Record) []byte {
	t.Helper()
	return more(t, 0, records...)
}

// more is what a journal has of records behind so many others.
func more(t *testing.T, number int, records ...api.Record) []byte {
	t.Helper()
	var all []byte
	for i, r := range records {
		data, code := journal.Encode(number+1+i, r)
		if code != api.OK {
			t.Fatalf("P7.1: Encode of %s says %d", tell(r), code)
		}
		all = append(all, data...)
	}
	return all
}

func message(t *testing.T, from, to int, n api.Note) api.Message {
	t.Helper()
	m, code := note.Message(from, to, n)
	if code != api.OK {
		t.Fatalf("P3.6: Message(%d, %d, %s) says %d", from, to, tell(n), code)
	}
	return m
}

// server is a node that is played, with its journal.
type server struct {
	t      *testing.T
	node   *node.Node
	self   int
	disk   []byte
	number int // of the journal's last record
}

// start opens a server over what a journal has, and holds what it writes and sends then.
func start(t *testing.T, self int, rules api.Rules, over []byte, things ...any) *server {
	t.Helper()
	n, whole, sent, code := node.Open(self, rules, over)
	if n == nil || code != api.OK {
		t.Fatalf("P14.3: Open(%d, %v) says %d", self, rules, code)
	}
	s := &server{t: t, node: n, self: self}
	s.does("P14.3: Open", whole, sent, things...)
	return s
}

// does holds that an event writes and sends these things, byte for byte: records, and notes behind whom they go to.
func (s *server) does(what string, written []byte, sent []api.Message, things ...any) {
	s.t.Helper()
	var records []api.Record
	var messages []api.Message
	for i, thing := range things {
		switch x := thing.(type) {
		case api.Record:
			records = append(records, x)
		case api.Note:
			messages = append(messages, message(s.t, s.self, things[i-1].(int), x))
		}
	}
	if want := more(s.t, s.number, records...); !bytes.Equal(written, want) {
		s.t.Errorf("%s writes %s, want %s", what, tellBytes(s.number, written), tell(records))
	}
	if !slices.Equal(sent, messages) {
		s.t.Errorf("%s sends %s, want %s", what, tellMessages(sent), tellMessages(messages))
	}
	s.disk, s.number = append(s.disk, written...), s.number+len(records)
}

// takes holds what a note does.
func (s *server) takes(from int, n api.Note, things ...any) {
	s.t.Helper()
	written, sent := s.node.Take(message(s.t, from, s.self, n))
	s.does(fmt.Sprintf("P14.4: Take of %d > %d %s", from, s.self, tellNote(n)), written, sent, things...)
}

func (s *server) ticks(things ...any) {
	s.t.Helper()
	written, sent := s.node.Tick()
	s.does("P14.6: Tick", written, sent, things...)
}

func (s *server) saves(things ...any) {
	s.t.Helper()
	written, sent := s.node.Save()
	s.does("P14.7: Save", written, sent, things...)
}

// shows holds what Sight says; of the queues it is told session by session, each with the number of its items.
func (s *server) shows(v api.View, active bool, floor, commit, last int, queues ...[2]int) {
	s.t.Helper()
	want := api.Sight{Up: true, View: v, Active: active, Floor: floor, Commit: commit, Last: last}
	for _, q := range queues {
		want.Sessions, want.Queued = append(want.Sessions, q[0]), append(want.Queued, q[1])
	}
	if got := s.node.Sight(); !sameSight(got, want) {
		s.t.Errorf("P14.8: Sight is %+v, want %+v", got, want)
	}
}

func sameSight(a, b api.Sight) bool {
	lists := slices.Equal(a.Sessions, b.Sessions) && slices.Equal(a.Queued, b.Queued)
	a.Sessions, a.Queued, b.Sessions, b.Queued = nil, nil, nil, nil
	return lists && reflect.DeepEqual(a, b)
}

// hasPlayed holds what Played says.
func (s *server) hasPlayed(entries ...api.Entry) {
	s.t.Helper()
	if got := s.node.Played(); !sameEntries(got, entries) {
		s.t.Errorf("P14.8: Played is %s, want %s", tell(got), tell(entries))
	}
	if got := s.node.Played(); len(got) != 0 {
		s.t.Errorf("P14.8: Played, asked again, is %s", tell(got))
	}
}

// bare is an entry whose list of ops is nil, if it has none.
func bare(e api.Entry) api.Entry {
	if len(e.Ops) == 0 {
		e.Ops = nil
	}
	return e
}

func sameEntries(a, b []api.Entry) bool {
	return slices.EqualFunc(a, b, func(a, b api.Entry) bool { return reflect.DeepEqual(bare(a), bare(b)) })
}

// part is a part of a machine's tree, as a text that can be held against another one's.
func part(m interface {
	Part(string, int) (api.Shot, api.Errno)
}, place string, kind int) string {
	shot, code := m.Part(place, kind)
	return fmt.Sprintf("%d %s %d %v says %d", shot.Stamp, shot.Place, shot.Kind, shot.Nodes, code)
}

// whole is what a node's or a machine's tree holds.
func whole(m interface {
	Part(string, int) (api.Shot, api.Errno)
}) string {
	return part(m, "/", api.WatchSubtree)
}

// tell is a value as a text that is not too long to be read.
func tell(v any) string {
	return fmt.Sprintf("%.900s", fmt.Sprintf("%+v", v))
}

// tellNote leaves out what a note does not have.
func tellNote(n api.Note) string {
	v, text := reflect.ValueOf(n), ""
	for i := range v.NumField() {
		if !v.Field(i).IsZero() {
			text += fmt.Sprintf(" %s %+v", v.Type().Field(i).Name, v.Field(i))
		}
	}
	return fmt.Sprintf("{%.700s}", text)
}

func tellMessages(list []api.Message) string {
	text := ""
	for _, m := range list {
		n, code := note.Open(m)
		if code != api.OK {
			text += fmt.Sprintf("\n  %d > %d: %d", m.From, m.To, code)
			continue
		}
		text += fmt.Sprintf("\n  %d > %d %s", m.From, m.To, tellNote(n))
	}
	return text
}

// recordsOf are the records that stand behind so many others.
func recordsOf(number int, data []byte) []api.Record {
	// Walk begins with the number 1: records of no weight stand ahead of the others.
	var ahead []byte
	for i := range number {
		blank, _ := journal.Encode(i+1, api.Record{Kind: api.RecordCommit})
		ahead = append(ahead, blank...)
	}
	var list []api.Record
	for k, r := range journal.Walk(append(ahead, data...)) {
		if k > number {
			list = append(list, r)
		}
	}
	return list
}

func tellBytes(number int, data []byte) string {
	text := fmt.Sprintf("%d bytes:", len(data))
	for _, r := range recordsOf(number, data) {
		text += fmt.Sprintf(" %.300s", fmt.Sprintf("%+v", r))
	}
	return text
}

// chance makes the same calls in every run.
type chance struct{ *rand.Rand }

func chanceOf(seed, kind uint64) chance { return chance{rand.New(rand.NewPCG(seed, kind))} }

func pick[T any](c chance, from ...T) T { return from[c.IntN(len(from))] }
