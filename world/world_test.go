package world_test

import (
	"slices"
	"testing"

	"herald/api"
	"herald/node"
	"herald/world"
)

// bound is a rule's field, and its lowest and highest number.
type bound struct {
	name            string
	field           func(r *api.Rules) *int
	lowest, highest int
}

func bounds() []bound {
	return []bound{
		{"Nodes", func(r *api.Rules) *int { return &r.Nodes }, 1, 5},
		{"Clients", func(r *api.Rules) *int { return &r.Clients }, 1, 6},
		{"Queue", func(r *api.Rules) *int { return &r.Queue }, 1, 32},
		{"Ring", func(r *api.Rules) *int { return &r.Ring }, 1, 64},
		{"Window", func(r *api.Rules) *int { return &r.Window }, 1, 8},
		{"Lease", func(r *api.Rules) *int { return &r.Lease }, 0, 1000},
	}
}

// TestNewRules: P17.1, each rule below, at, within and above its bounds.
func TestNewRules(t *testing.T) {
	lowest, highest := api.Rules{}, api.Rules{}
	for _, b := range bounds() {
		*b.field(&lowest), *b.field(&highest) = b.lowest, b.highest
	}
	for _, b := range bounds() {
		for _, number := range append(ends(), b.lowest-1, b.lowest, b.lowest+1, (b.lowest+b.highest)/2, b.highest-1, b.highest, b.highest+1) {
			for _, rules := range []api.Rules{lowest, highest, rulesOf(2, 2)} {
				*b.field(&rules) = number
				want := api.ErrArg
				if number >= b.lowest && number <= b.highest {
					want = api.OK
				}
				if w, code := world.New(rules); code != want || (w == nil) != (want != api.OK) {
					t.Errorf("P17.1: New(%+v) says %d, want %d", rules, code, want)
				}
			}
		}
	}
	if w, code := world.New(api.Rules{}); code != api.ErrArg || w != nil {
		t.Errorf("P17.1: New(Rules{}) says %d", code)
	}
}

// TestNewWorld: P17.1, what there is in a world that begins, of every number of nodes and clients.
func TestNewWorld(t *testing.T) {
	root := api.Shot{Place: "/", Kind: api.WatchSubtree, Nodes: []api.Seen{{Place: "/"}}}
	for nodes := 1; nodes <= 5; nodes++ {
		for clients := 1; clients <= 6; clients++ {
			w := begun(t, rulesOf(nodes, clients))
			first := api.View{Num: 1, Primary: 1, Backup: min(nodes, 2)}
			if nodes == 1 {
				first.Backup = 0
			}
			is(t, "P17.1: Views of a new world", w.Views(), []api.View{first})
			is(t, "P17.1: History of a new world", w.History(), []api.Entry(nil))
			numbers, messages := w.Flight()
			if len(numbers) > 0 || len(messages) > 0 {
				t.Errorf("P17.1: in a new world %v are in flight", messages)
			}
			for i := 1; i <= nodes; i++ {
				shows(t, w, i, api.Sight{Up: true}, nil, root)
			}
			for k := 1; k <= clients; k++ {
				pictures, code := w.Pictures(k)
				if len(pictures) > 0 || code != api.OK {
					t.Errorf("P17.1: Pictures(%d) of a new world = %v, %d", k, pictures, code)
				}
			}
			for k := 1; k <= clients; k++ {
				told := plays(t, w, begins(k))
				is(t, "P17.1: what Begin of a new client tells", told, []api.Told{{Step: k - 1, Client: k, Kind: api.ToldBegin, Session: k}})
			}
		}
	}
}

// shows holds what a world shows of a node.
func shows(t *testing.T, w *world.World, i int, want api.Sight, disk []byte, tree api.Shot) {
	t.Helper()
	got, code := w.Sight(i)
	if !same(got, want) || code != api.OK {
		t.Errorf("P17.7: Sight(%d) = %+v, %d, want %+v", i, got, code, want)
	}
	bytes, code := w.Disk(i)
	if !slices.Equal(bytes, disk) || code != api.OK {
		t.Errorf("P17.2: Disk(%d) = %x, %d, want %x", i, bytes, code, disk)
	}
	part, code := w.Part(i, "/", api.WatchSubtree)
	if !same(part, tree) || (code == api.OK) != want.Up {
		t.Errorf("P17.7: Part(%d) = %+v, %d, want %+v", i, part, code, tree)
	}
}

// TestExamples: the chapter's table of examples, row by row.
func TestExamples(t *testing.T) {
	if w, code := world.New(api.Rules{}); w != nil || code != api.ErrArg {
		t.Errorf("New(Rules{}) says %d", code)
	}
	w := begun(t, rulesOf(2, 1))
	is(t, "Flight at the beginning", flying(t, w), [][3]int(nil))
	refuses(t, w, delivers(0), api.ErrFlight)
	plays(t, w, ticks(1))
	is(t, "Flight behind a tick", flying(t, w), [][3]int{{1, 0, api.NoteAsk}})
	refuses(t, w, ticks(3), api.ErrStep)
	plays(t, w, ticks(101))
	refuses(t, w, calms(0), api.ErrStep)
	refuses(t, w, calms(65), api.ErrStep)
	plays(t, w, crashes(2))
	refuses(t, w, ticks(2), api.ErrDown)
	refuses(t, w, crashes(2), api.ErrDown)
	plays(t, w, restarts(2))
	refuses(t, w, restarts(2), api.ErrStep)
	refuses(t, w, promotes(2, 1), api.ErrUnready)
	plays(t, w, calms(4), promotes(2, 1))

	w = begun(t, rulesOf(2, 1))
	plays(t, w, begins(1), calms(4), does(1, makes("/a", "")), calms(4))
	is(t, "History", w.History(), []api.Entry{
		{Stamp: 1, View: 1, Kind: api.EntryOpen, Session: 1},
		{Stamp: 2, View: 1, Kind: api.EntryRequest, Session: 1, Request: 1, Ops: []api.Op{makes("/a", "")}},
	})
}

// twin is a node that is given the same as one of a world, beside it.
type twin struct {
	t     *testing.T
	w     *world.World
	i     int
	rules api.Rules
	n     *node.Node
	disk  []byte
}

func twinOf(t *testing.T, w *world.World, i int, rules api.Rules) *twin {
	t.Helper()
	x := &twin{t: t, w: w, i: i, rules: rules}
	x.n, x.disk, _, _ = node.Open(i, rules, nil)
	return x
}

// plays lets the world play a step that is an event of the node, and the twin the same; it tells what the event played.
func (x *twin) plays(s api.Step) []api.Entry {
	x.t.Helper()
	numbers, messages := x.w.Flight()
	history := x.w.History()
	var written []byte
	var sent []api.Message
	switch s.Kind {
	case api.StepRestart:
		x.n, written, sent, _ = node.Open(x.i, x.rules, x.disk)
		x.disk = nil
	case api.StepTick:
		written, sent = x.n.Tick()
	case api.StepSave:
		written, sent = x.n.Save()
	case api.StepDeliver:
		written, sent = x.n.Take(messages[s.A])
		numbers, messages = slices.Delete(numbers, s.A, s.A+1), slices.Delete(messages, s.A, s.A+1)
	}
	x.disk = append(x.disk, written...)
	for _, m := range sent {
		if len(messages) < api.MaxFlight {
			messages = append(messages, m)
		}
	}
	played := x.n.Played()
	for _, e := range played {
		if e.Stamp > len(history) {
			history = append(history, e)
		}
	}
	plays(x.t, x.w, s)
	disk, _ := x.w.Disk(x.i)
	is(x.t, "P17.2: the disk behind an event", disk, x.disk)
	after, flight := x.w.Flight()
	is(x.t, "P17.2: what is in flight behind an event", flight, messages)
	if !slices.Equal(after[:len(numbers)], numbers) {
		x.t.Errorf("P17.2: an event turns the numbers %v to %v", numbers, after)
	}
	is(x.t, "P17.2: the history behind an event", x.w.History(), history)
	got, _ := x.w.Sight(x.i)
	is(x.t, "P17.7: Sight behind an event", got, x.n.Sight())
	return played
}

// TestEvents: P17.2, what a start, a message, a tick and a save write, send and play.
func TestEvents(t *testing.T) {
	rules := rulesOf(1, 1)
	rules.Lease = 2
	w := begun(t, rules)
	x := twinOf(t, w, 1, rules)
	x.plays(ticks(1))
	plays(t, w, delivers(0))
	x.plays(delivers(0)) // NoteTell: RecordView is written, NoteSettled sent
	is(t, "P17.2: behind NoteTell", flying(t, w), [][3]int{{1, 0, api.NoteSettled}})
	plays(t, w, begins(1))
	if played := x.plays(delivers(1)); len(played) != 1 || played[0].Kind != api.EntryOpen {
		t.Errorf("P17.2: NoteOpen plays %s", tell(played))
	}
	plays(t, w, delivers(1), does(1, makes("/a", "x")))
	x.plays(delivers(1)) // NoteResume
	x.plays(delivers(1)) // NoteCall
	plays(t, w, crashes(1))
	if played := x.plays(restarts(1)); len(played) != 2 {
		t.Errorf("P17.2: a start over a full disk plays %s", tell(played))
	}
	x.plays(saves(1))
	plays(t, w, crashes(1))
	if played := x.plays(restarts(1)); len(played) != 0 {
		t.Errorf("P17.2: a start over a checkpoint plays %s", tell(played))
	}
	for range 2 {
		x.plays(ticks(1))
	}
	if played := x.plays(ticks(1)); len(played) != 1 || played[0].Kind != api.EntryExpire {
		t.Errorf("P17.2: a tick plays %s", tell(played))
	}
	is(t, "P17.6: the history's length", len(w.History()), 3)
	plays(t, w, crashes(1))
	x.plays(restarts(1))
}

// fill doubles a message till so many are in flight.
func fill(t *testing.T, w *world.World, count int) {
	t.Helper()
	for numbers, _ := w.Flight(); len(numbers) < count; numbers, _ = w.Flight() {
		plays(t, w, doubles(0))
	}
}

// TestNoRoom: P17.2, messages that find no room are lost, in their order, those that find some are not; what is written, played and told is so all the same.
func TestNoRoom(t *testing.T) {
	for count := 253; count <= 256; count++ {
		rules := rulesOf(1, 1)
		rules.Lease = 2
		w := begun(t, rules)
		x := twinOf(t, w, 1, rules)
		x.plays(ticks(1))
		plays(t, w, delivers(0))
		x.plays(delivers(0))
		plays(t, w, delivers(0), begins(1))
		x.plays(delivers(0))
		fill(t, w, count)
		for range 2 {
			x.plays(ticks(1))
		}
		if played := x.plays(ticks(1)); len(played) != 1 {
			t.Errorf("P17.2: with %d in flight a tick plays %s", count, tell(played))
		}
		x.plays(saves(1))
		plays(t, w, crashes(1))
		x.plays(restarts(1))
		told := plays(t, w, delivers(0), ticks(101))
		is(t, "P17.2: what a client is told", told[0].Kind, api.ToldBegun)
		_, messages := w.Flight()
		if len(messages) != 256 {
			t.Errorf("P17.2: %d messages are in flight", len(messages))
		}
		refuses(t, w, doubles(5), api.ErrFull)
		told = plays(t, w, drops(0), does(1, gets("/")))
		is(t, "P17.2: what a client is told", told[0].Kind, api.ToldCall)
		told = plays(t, w, stepOf(api.StepEnd, 1))
		is(t, "P17.2: what a client whose messages find no room is told", told[0].Kind, api.ToldEnd)
		_, after := w.Flight()
		is(t, "P17.2: the messages ahead", after[:255], messages[1:])
		if len(after) != 256 || after[255].From != 101 {
			t.Errorf("P17.2: %d messages are in flight, the last is from %d", len(after), after[len(after)-1].From)
		}
	}
}

// TestServiceNoRoom: P17.2, what the service answers finds the room that the asking has left.
func TestServiceNoRoom(t *testing.T) {
	w := begun(t, rulesOf(1, 1))
	plays(t, w, ticks(101))
	fill(t, w, 256)
	plays(t, w, delivers(0))
	numbers, messages := w.Flight()
	if len(numbers) != 256 || numbers[0] != 2 || numbers[255] != 257 || messages[255].From != 0 || messages[255].To != 101 {
		t.Errorf("P17.3: behind an asking %d messages are in flight, the last one is %d of %+v", len(numbers), numbers[255], messages[255])
	}
}

// TestArriving: P17.3, messages from and to the service, nodes that run and that do not, clients, and addresses that are nobody's, whole and spoilt.
func TestArriving(t *testing.T) {
	addresses := append(ends(), 0, 1, 2, 3, 4, 5, 6, 99, 100, 101, 102, 103, 106, 107)
	view := api.View{Num: 2, Primary: 2, Backup: 1}
	notes := []api.Note{
		{Kind: api.NoteAsk},
		{Kind: api.NoteSettled, View: api.View{Num: 1}},
		{Kind: api.NoteTell, View: view},
		{Kind: api.NoteElsewhere, View: view},
		{Kind: api.NoteOpen, Session: 1},
	}
	for _, from := range addresses {
		for _, to := range addresses {
			for _, n := range notes {
				for _, isSpoilt := range []bool{false, true} {
					arrivesAlike(t, messageOf(t, from, to, n), isSpoilt)
				}
			}
		}
	}
}

// arrivesAlike lets a message arrive in a world of three nodes, of which the second does not run, and two clients.
func arrivesAlike(t *testing.T, m api.Message, isSpoilt bool) {
	t.Helper()
	rules := rulesOf(3, 2)
	w, g := begun(t, rules), againOf(rules)
	for _, s := range []api.Step{crashes(2), ticks(3), begins(2)} {
		g.stepsAlike(t, w, s)
	}
	w.Post(m)
	g.send([]api.Message{m})
	if isSpoilt {
		g.stepsAlike(t, w, spoils(-1, 9, 1))
	}
	g.stepsAlike(t, w, delivers(-1))
	g.stepsAlike(t, w, promotes(0, 0)) // whether the view is settled
	if g.isLike(t, w); t.Failed() {
		t.Fatalf("P17.3: behind a note of kind %d from %d to %d, spoilt: %v", noteIn(t, m).Kind, m.From, m.To, isSpoilt)
	}
}

// TestServiceAnswers: P17.3, the service answers whoever is of this world, whether it runs or not, and nobody else, and only to what is whole.
func TestServiceAnswers(t *testing.T) {
	for _, from := range append(ends(), 0, 1, 2, 3, 4, 5, 6, 99, 100, 101, 102, 103, 106, 107) {
		w := begun(t, rulesOf(2, 2))
		plays(t, w, crashes(2))
		w.Post(messageOf(t, from, 0, api.Note{Kind: api.NoteAsk}))
		plays(t, w, delivers(0))
		var want [][3]int
		if from == 1 || from == 2 || from == 101 || from == 102 {
			want = [][3]int{{0, from, api.NoteTell}}
		}
		is(t, "P17.3: what the service answers", flying(t, w), want)
		w.Post(messageOf(t, from, 0, api.Note{Kind: api.NoteAsk}))
		told := plays(t, w, spoils(-1, from, 1), delivers(-1))
		is(t, "P17.3: what the service answers to what is spoilt", flying(t, w), want)
		is(t, "P17.5: what is told of it", told, []api.Told(nil))
		w.Post(messageOf(t, from, 0, api.Note{Kind: api.NoteSettled, View: api.View{Num: 1}}))
		plays(t, w, delivers(-1))
		is(t, "P17.3: what the service answers to NoteSettled", flying(t, w), want)
		settled := api.ErrUnready
		if from == 1 {
			settled = api.ErrView
		}
		refuses(t, w, promotes(0, 0), settled)
	}
}

// TestLost: P17.3, what comes to a node that does not run, or to nobody, is lost, and is not there when the node starts again.
func TestLost(t *testing.T) {
	w := begun(t, rulesOf(2, 1))
	plays(t, w, ticks(2), delivers(0), crashes(2))
	is(t, "P17.3: in flight", flying(t, w), [][3]int{{0, 2, api.NoteTell}})
	plays(t, w, doubles(0), delivers(0))
	shows(t, w, 2, api.Sight{}, nil, api.Shot{})
	is(t, "P17.3: in flight", flying(t, w), [][3]int{{0, 2, api.NoteTell}})
	plays(t, w, restarts(2))
	got, _ := w.Sight(2)
	is(t, "P17.3: the view of a node that was told nothing", got, api.Sight{Up: true})
	plays(t, w, delivers(0))
	got, _ = w.Sight(2)
	is(t, "P17.3: the view of a node that was told it", got.View, api.View{Num: 1, Primary: 1, Backup: 2})
}

// TestNothing: P17.8, a nil and a zero world, whatever they are asked, and they stay so.
func TestNothing(t *testing.T) {
	var none *world.World
	for _, w := range []*world.World{none, {}} {
		for _, kind := range append(ends(), 0, 1, 2, 3, 4, 5, 6, 7, 8, 9, 10, 11, 12, 13, 14, 15, 16, 17) {
			for _, a := range []int{-1, 0, 1, 101} {
				told, code := w.Step(api.Step{Kind: kind, A: a, B: 1, C: 1, Place: "/", Ops: []api.Op{gets("/")}})
				if code != api.ErrStep || len(told) > 0 {
					t.Errorf("P17.8: Step of nothing = %v, %d", told, code)
				}
			}
		}
		want := sight{Codes: slices.Repeat([]api.Errno{api.ErrStep}, 32), Sights: make([]api.Sight, 8), Disks: make([][]byte, 8), Trees: make([]api.Shot, 8), Pictures: make([][]api.Part, 8)}
		is(t, "P17.8: all that nothing shows", sightOf(w), want)
	}
}

// TestWhoIsNotThere: P17.7, Sight, Disk, Part and Pictures of nodes and clients that are not there.
func TestWhoIsNotThere(t *testing.T) {
	for nodes := 1; nodes <= 5; nodes++ {
		for clients := 1; clients <= 6; clients++ {
			w := begun(t, rulesOf(nodes, clients))
			plays(t, w, crashes(nodes))
			for _, number := range append(ends(), 0, 1, 2, 3, 4, 5, 6, 7, 100, 101, 102, -100, -99) {
				there, isUp, client := api.ErrStep, api.ErrStep, api.ErrStep
				if number >= 1 && number <= nodes {
					there, isUp = api.OK, api.OK
				}
				if number == nodes {
					isUp = api.ErrDown
				}
				if number >= 1 && number <= clients {
					client = api.OK
				}
				asked(t, w, number, there, isUp, client)
			}
		}
	}
}

// asked asks a world for a node and for a client of a number, and holds the codes: of Sight and Disk, of Part, of Pictures.
func asked(t *testing.T, w *world.World, number int, there, isUp, client api.Errno) {
	t.Helper()
	s, code := w.Sight(number)
	if code != there || s.Up != (isUp == api.OK) || !s.Up && !same(s, api.Sight{}) {
		t.Errorf("P17.7: Sight(%d) = %+v, %d, want %d", number, s, code, there)
	}
	if disk, code := w.Disk(number); code != there || len(disk) > 0 {
		t.Errorf("P17.7: Disk(%d) = %x, %d, want %d", number, disk, code, there)
	}
	if part, code := w.Part(number, "/", api.WatchNode); code != isUp || (len(part.Nodes) == 1) != (isUp == api.OK) {
		t.Errorf("P17.7: Part(%d) = %+v, %d, want %d", number, part, code, isUp)
	}
	if pictures, code := w.Pictures(number); code != client || len(pictures) > 0 {
		t.Errorf("P17.7: Pictures(%d) = %v, %d, want %d", number, pictures, code, client)
	}
}

// TestPart: P17.7, Part's errors: no node, then one that does not run, then node.Part's own.
func TestPart(t *testing.T) {
	w := begun(t, rulesOf(2, 1))
	plays(t, w, begins(1), calms(6), does(1, makes("/a", "x"), makes("/a/b", "y")), calms(4), crashes(2))
	for _, place := range []string{"/", "/a", "/a/b", "/no", "", "a", "/a/"} {
		for _, kind := range append(ends(), 0, 1, 2, 3, 4) {
			for _, number := range []int{0, 3} {
				if shot, code := w.Part(number, place, kind); code != api.ErrStep || !same(shot, api.Shot{}) {
					t.Errorf("P17.7: Part(%d, %q, %d) = %+v, %d", number, place, kind, shot, code)
				}
			}
			if shot, code := w.Part(2, place, kind); code != api.ErrDown || !same(shot, api.Shot{}) {
				t.Errorf("P17.7: Part(2, %q, %d) = %+v, %d", place, kind, shot, code)
			}
			disk, _ := w.Disk(1)
			n, _, _, _ := node.Open(1, rulesOf(2, 1), disk)
			want, wantCode := n.Part(place, kind)
			if shot, code := w.Part(1, place, kind); code != wantCode || !same(shot, want) {
				t.Errorf("P17.7: Part(1, %q, %d) = %+v, %d, want %+v, %d", place, kind, shot, code, want, wantCode)
			}
		}
	}
	if shot, _ := w.Part(1, "/a", api.WatchSubtree); shot.Stamp != 2 || len(shot.Nodes) != 2 {
		t.Errorf("P17.7: Part = %+v", shot)
	}
}
