package note_test

import (
	"slices"
	"strings"

	"herald/api"
)

var (
	longName  = strings.Repeat("n", api.MaxName)
	longPlace = strings.Repeat("/"+longName, api.MaxDepth)
	longData  = strings.Repeat("\xff", api.MaxData)
	longRaw   = strings.Repeat("\x00", api.MaxRaw)
)

func inView(num int) api.View { return api.View{Num: num} }

func someOp() api.Op {
	return api.Op{Kind: api.OpSet, Place: "/a", Data: "x", Version: -1}
}

func someRequest() api.Entry {
	return api.Entry{Stamp: 4, View: 2, Kind: api.EntryRequest, Session: 5, Request: 6, Ops: []api.Op{someOp()}}
}

func someEntries() []api.Entry {
	return []api.Entry{
		someRequest(),
		{Stamp: 1, Kind: api.EntryOpen, Session: 5},
		{Stamp: 9, View: 3, Kind: api.EntryClose, Session: 5},
		{Stamp: 2, View: 1, Kind: api.EntryExpire, Session: 21},
		{Stamp: 2, View: 1, Kind: api.EntryRequest, Session: 21, Request: 1},
	}
}

func someShot() api.Shot {
	return api.Shot{Stamp: 9, Place: "/a", Kind: api.WatchKids, Nodes: []api.Seen{{Place: "/a", Data: "x", Version: 2}}}
}

func someMarker(stamp int) api.Item {
	return api.Item{Stamp: stamp, After: 3, Marker: true, Parts: []api.Part{{Id: 3, Shot: someShot()}}}
}

func someEvent(stamp int) api.Item {
	change := api.Change{Kind: api.ChangeGone, Place: "/a", Data: "d", Version: 6}
	return api.Item{Stamp: stamp, After: 8, Changes: []api.Tagged{{Change: change, Tags: []int{3}}}}
}

func callOf(ops ...api.Op) api.Note {
	return api.Note{Kind: api.NoteCall, Session: 1, Request: 2, Ops: ops}
}

func answerOf(results ...api.Result) api.Note {
	return api.Note{Kind: api.NoteAnswer, View: inView(7), Session: 1, Request: 2, Reply: api.Reply{Stamp: 4, Results: results}}
}

func appendOf(entries ...api.Entry) api.Note {
	return api.Note{Kind: api.NoteAppend, View: inView(2), Stamp: 3, Of: 1, Entries: entries, Commit: 2}
}

func deliverOf(items ...api.Item) api.Note {
	return api.Note{Kind: api.NoteDeliver, View: inView(7), Session: 1, Conn: 2, Items: items}
}

func watchedOf(code api.Errno, parts ...api.Part) api.Note {
	return api.Note{Kind: api.NoteWatched, View: inView(7), Session: 1, Conn: 2, Stamp: 5, Code: code, Parts: parts}
}

func withWatches(kind int, watches ...api.Watch) api.Note {
	n := api.Note{Kind: kind, Session: 1, Conn: 2, Watches: watches}
	if kind == api.NoteUnwatched {
		n.View = inView(7)
	}
	return n
}

// plain has one note of each kind, with one element in each of its lists (two notes of NoteDeliver and of NoteWatched, which have two forms).
func plain() []api.Note {
	result := api.Result{Place: "/a", Data: "x", Version: 1, Made: 2, Changed: 3, Owner: 5, Kids: []string{"k"}}
	watch := api.Watch{Id: 3, Place: "/a", Kind: api.WatchSubtree, From: 4}
	resume := withWatches(api.NoteResume, watch)
	resume.Stamp = 9
	event, marker := deliverOf(someEvent(9)), deliverOf(someMarker(9))
	event.Watches = []api.Watch{{Id: 3}}
	return []api.Note{
		{Kind: api.NoteOpen, Session: 5},
		callOf(someOp()),
		{Kind: api.NoteClose, Session: 5},
		{Kind: api.NoteBeat, Session: 300, Conn: 1},
		resume,
		withWatches(api.NoteWatch, watch),
		withWatches(api.NoteUnwatch, api.Watch{Id: 3}),
		{Kind: api.NoteTook, Session: 1, Conn: 2, Stamp: 128},
		{Kind: api.NoteOpened, View: inView(7), Session: 1, Code: api.ErrOld},
		answerOf(result),
		{Kind: api.NoteGone, View: inView(7), Session: 1},
		{Kind: api.NoteResumed, View: inView(7), Session: 1, Conn: 2, Stamp: 5, Code: api.ErrSession},
		watchedOf(api.OK, api.Part{Id: 3, Shot: someShot()}),
		watchedOf(api.ErrFull, api.Part{Id: 3}),
		event,
		marker,
		{Kind: api.NoteElsewhere, View: api.View{Num: 3, Primary: 2, Backup: 1}},
		{Kind: api.NoteJoin, View: inView(2), Stamp: 3, Of: 1},
		appendOf(someRequest()),
		{Kind: api.NoteAcked, View: inView(2), Stamp: 3},
		{Kind: api.NoteFull, View: inView(2), Stamp: 3, Of: 1, State: "zz"},
		{Kind: api.NoteProbe, View: inView(2)},
		{Kind: api.NoteAsk},
		{Kind: api.NoteTell, View: api.View{Num: 3, Primary: 2, Backup: 1}},
		{Kind: api.NoteSettled, View: inView(2)},
		withWatches(api.NoteUnwatched, api.Watch{Id: 3}),
	}
}

// varied has notes with no, several and mixed elements, and zeros wherever they may be.
func varied() []api.Note {
	versions := []api.Op{{Version: 0}, {Version: 7, Flags: api.FlagBrief | api.FlagCounted}, {Kind: 99, Place: "\xff/", Data: "\x00", Version: most}, {Version: -1}}
	twoParts := api.Item{Marker: true, Parts: []api.Part{{Id: 9, Shot: someShot()}, {Id: 3, Shot: api.Shot{Place: "/", Kind: api.WatchNode}}}}
	twoChanges := someEvent(5)
	twoChanges.Changes = append(twoChanges.Changes, api.Tagged{Change: api.Change{Kind: api.ChangeMade, Place: "/"}, Tags: []int{1, 2, 700}})
	deliver := deliverOf(twoParts, twoChanges, someEvent(6))
	deliver.Watches = []api.Watch{{Id: 1}, {Id: 4}}
	refused := answerOf()
	refused.Reply = api.Reply{Stamp: 4, Code: api.ErrExists, At: 1}
	return []api.Note{
		callOf(), callOf(versions...), callOf(someOp(), someOp()),
		withWatches(api.NoteResume), withWatches(api.NoteResume, api.Watch{Id: 4, Place: "/", Kind: api.WatchNode}, api.Watch{Id: 3, Place: "/a/b", Kind: api.WatchKids, From: 4}),
		answerOf(), refused, answerOf(api.Result{}, api.Result{Place: "/", Kids: []string{"b", "a", "..."}}, api.Result{Version: 200}),
		watchedOf(api.OK, api.Part{Id: 1, Shot: api.Shot{Place: "/", Kind: api.WatchSubtree, Nodes: []api.Seen{{Place: "/"}, {Place: "/a", Data: "\xff"}}}}),
		deliver, deliverOf(someEvent(0)), deliverOf(someEvent(0), someEvent(most)),
		appendOf(), appendOf(someEntries()...),
		{Kind: api.NoteElsewhere}, {Kind: api.NoteTell}, {Kind: api.NoteJoin, View: inView(1)}, {Kind: api.NoteFull, View: inView(1)},
	}
}

func times[T any](count int, element func(i int) T) []T {
	var list []T
	for i := range count {
		list = append(list, element(i))
	}
	return list
}

func longShot() api.Shot {
	nodes := times(api.MaxNodes, func(int) api.Seen { return api.Seen{Place: longPlace, Data: longData, Version: most} })
	return api.Shot{Stamp: most, Place: longPlace, Kind: api.WatchSubtree, Nodes: nodes}
}

// upTo is the i-th of count rising numbers that end with MaxNumber.
func upTo(count, i int) int { return most - count + 1 + i }

func longMarker(stamp int) api.Item {
	parts := times(api.MaxWatches, func(int) api.Part { return api.Part{Id: most, Shot: longShot()} })
	return api.Item{Stamp: stamp, After: most, Marker: true, Parts: parts}
}

func longEvent(stamp int) api.Item {
	changes := times(api.MaxNodes, func(int) api.Tagged {
		tags := times(api.MaxWatches, func(i int) int { return upTo(api.MaxWatches, i) })
		return api.Tagged{Change: api.Change{Kind: api.ChangeGone, Place: longPlace, Data: longData, Version: most}, Tags: tags}
	})
	return api.Item{Stamp: stamp, After: most, Changes: changes}
}

func longOps() []api.Op {
	return times(api.MaxOps, func(int) api.Op {
		return api.Op{Kind: most, Place: longRaw, Data: longRaw, Version: most, Flags: most}
	})
}

func longAppend() api.Note {
	entries := times(api.MaxBatch, func(int) api.Entry {
		return api.Entry{Stamp: most, View: most, Kind: api.EntryRequest, Session: most, Request: most, Ops: longOps()}
	})
	return api.Note{Kind: api.NoteAppend, View: inView(most), Stamp: most, Of: most, Entries: entries, Commit: most}
}

// longDeliver has as many events as there may be beside a marker, or without one.
func longDeliver(marker bool) api.Note {
	ids := times(api.MaxWatches, func(i int) api.Watch { return api.Watch{Id: upTo(api.MaxWatches, i)} })
	items := times(api.MaxWindow, func(i int) api.Item { return longEvent(upTo(api.MaxWindow, i)) })
	if marker {
		items[0] = longMarker(items[0].Stamp)
	}
	return api.Note{Kind: api.NoteDeliver, View: inView(most), Session: most, Conn: most, Watches: ids, Items: items}
}

func longFull() api.Note {
	return api.Note{Kind: api.NoteFull, View: inView(most), Stamp: most, Of: most, State: strings.Repeat("\xff", api.MaxState)}
}

// greatest has the greatest notes that may be, of each kind that has a list or a text.
func greatest() []api.Note {
	results := times(api.MaxOps, func(int) api.Result {
		kids := times(api.MaxNodes, func(int) string { return longName })
		return api.Result{Place: longPlace, Data: longData, Version: most, Made: most, Changed: most, Owner: most, Kids: kids}
	})
	watch := api.Watch{Id: most, Place: longPlace, Kind: api.WatchSubtree, From: most}
	return []api.Note{
		{Kind: api.NoteCall, Session: most, Request: most, Ops: longOps()},
		{Kind: api.NoteResume, Session: most, Conn: most, Stamp: most, Watches: times(api.MaxWatches, func(int) api.Watch { return watch })},
		{Kind: api.NoteWatch, Session: most, Conn: most, Watches: []api.Watch{watch}},
		{Kind: api.NoteUnwatch, Session: most, Conn: most, Watches: []api.Watch{{Id: most}}},
		{Kind: api.NoteUnwatched, View: inView(most), Session: most, Conn: most, Watches: []api.Watch{{Id: most}}},
		{Kind: api.NoteAnswer, View: inView(most), Session: most, Request: most, Reply: api.Reply{Stamp: most, Code: most, At: most, Results: results}},
		{Kind: api.NoteResumed, View: inView(most), Session: most, Conn: most, Stamp: most, Code: most},
		{Kind: api.NoteWatched, View: inView(most), Session: most, Conn: most, Stamp: most, Parts: []api.Part{{Id: most, Shot: longShot()}}},
		{Kind: api.NoteWatched, View: inView(most), Session: most, Conn: most, Stamp: most, Code: most, Parts: []api.Part{{Id: most}}},
		{Kind: api.NoteTell, View: api.View{Num: most, Primary: most, Backup: most}},
		longDeliver(true), longDeliver(false), longAppend(), longFull(),
	}
}

func samples() []api.Note {
	return slices.Concat(plain(), varied(), greatest())
}
