package note_test

import (
	"math"
	"math/rand"
	"reflect"
	"slices"
	"strings"
	"testing"

	"herald/api"
	"herald/note"
)

// leaves goes through all numbers, texts and truths of a value, and through its lists themselves.
func leaves(v reflect.Value, visit func(v reflect.Value)) {
	switch v.Kind() {
	case reflect.Struct:
		for i := range v.NumField() {
			leaves(v.Field(i), visit)
		}
		return
	case reflect.Slice:
		for i := range v.Len() {
			leaves(v.Index(i), visit)
		}
	}
	visit(v)
}

// holdsCheck holds Check and Encode of a note against the second reckoning, and tells whether the note may be.
func holdsCheck(t *testing.T, n api.Note) bool {
	t.Helper()
	want, ok := api.ErrNote, mayBe(n)
	if ok {
		want = api.OK
	}
	if code := note.Check(n); code != want {
		t.Errorf("P3.1: Check = %d, want %d: %.300v", code, want, n)
	}
	if data, code := note.Encode(n); code != want || !ok && data != nil {
		t.Errorf("P3.3: Encode = %d bytes, %d, want %d: %.300v", len(data), code, want, n)
	}
	return ok
}

// TestSamplesMayBe: P3.1, ordinary notes of every kind and the greatest ones.
func TestSamplesMayBe(t *testing.T) {
	kinds := map[int]int{}
	for _, n := range samples() {
		kinds[n.Kind]++
		if !mayBe(n) || note.Check(n) != api.OK {
			t.Errorf("P3.1: Check = %d: %.300v", note.Check(n), n)
		}
	}
	if len(kinds) != len(kindHas) {
		t.Errorf("there are notes of %d kinds", len(kinds))
	}
}

// TestKinds: P3.1, numbers that are no kind; and which kinds may have nothing.
func TestKinds(t *testing.T) {
	bare := []int{api.NoteAsk, api.NoteElsewhere, api.NoteTell}
	for _, kind := range slices.Concat([]int{math.MinInt, math.MaxInt, most, 256, 1 << 32, 1<<32 + api.NoteAsk}, times(60, func(i int) int { return i - 30 })) {
		want := api.ErrNote
		if slices.Contains(bare, kind) {
			want = api.OK
		}
		if code := note.Check(api.Note{Kind: kind}); code != want {
			t.Errorf("P3.1: kind %d alone: %d, want %d", kind, code, want)
		}
	}
}

// TestForeignFields: P3.1, what a kind does not have is zero.
func TestForeignFields(t *testing.T) {
	foreign := map[string]func(n *api.Note){
		"Num":           func(n *api.Note) { n.View.Num = 1 },
		"View":          func(n *api.Note) { n.View.Primary = 1 },
		"View.Backup":   func(n *api.Note) { n.View.Backup = 1 },
		"Session":       func(n *api.Note) { n.Session = 1 },
		"Conn":          func(n *api.Note) { n.Conn = 1 },
		"Request":       func(n *api.Note) { n.Request = 1 },
		"Stamp":         func(n *api.Note) { n.Stamp = 1 },
		"Of":            func(n *api.Note) { n.Of = 1 },
		"Commit":        func(n *api.Note) { n.Commit = 1 },
		"Code":          func(n *api.Note) { n.Code = 1 },
		"Ops":           func(n *api.Note) { n.Ops = make([]api.Op, 1) },
		"Entries":       func(n *api.Note) { n.Entries = make([]api.Entry, 1) },
		"Reply":         func(n *api.Note) { n.Reply.Stamp = 1 },
		"Reply.Code":    func(n *api.Note) { n.Reply.Code = 1 },
		"Reply.At":      func(n *api.Note) { n.Reply.At = 1 },
		"Reply.Results": func(n *api.Note) { n.Reply.Results = make([]api.Result, 1) },
		"Watches":       func(n *api.Note) { n.Watches = make([]api.Watch, 1) },
		"Parts":         func(n *api.Note) { n.Parts = make([]api.Part, 1) },
		"Items":         func(n *api.Note) { n.Items = make([]api.Item, 1) },
		"State":         func(n *api.Note) { n.State = "\x00" },
	}
	for i, n := range plain() {
		has := fieldNames(n.Kind)
		for name, set := range foreign {
			whole, _, _ := strings.Cut(name, ".")
			if slices.Contains(has, whole) || name == "Num" && slices.Contains(has, "View") {
				continue
			}
			n := plain()[i]
			set(&n)
			if code := note.Check(n); code != api.ErrNote {
				t.Errorf("P3.1: kind %d with %s: %d", n.Kind, name, code)
			}
		}
	}
}

// TestEmptyLists: P3.1 and W5, an empty list is the same as none.
func TestEmptyLists(t *testing.T) {
	n := api.Note{Kind: api.NoteAsk, Ops: []api.Op{}, Entries: []api.Entry{}, Reply: api.Reply{Results: []api.Result{}}, Watches: []api.Watch{}, Parts: []api.Part{}, Items: make([]api.Item, 0, 3)}
	if data, code := note.Encode(n); note.Check(n) != api.OK || code != api.OK || string(data) != "\x15" {
		t.Errorf("P3.1: % x, %d", data, code)
	}
	refused := watchedOf(api.ErrFull, api.Part{Id: 3, Shot: api.Shot{Nodes: []api.Seen{}}})
	event, marker := someEvent(1), someMarker(1)
	event.Parts, marker.Changes = []api.Part{}, []api.Tagged{}
	open := api.Entry{Stamp: 1, Kind: api.EntryOpen, Session: 1, Ops: []api.Op{}}
	for _, n := range []api.Note{refused, deliverOf(event), deliverOf(marker), appendOf(open)} {
		if code := note.Check(n); code != api.OK {
			t.Errorf("P3.1: %d: %.300v", code, n)
		}
	}
}

// turnEach turns each leaf of a kind, in each note, into each of the values, and holds Check against the second reckoning.
func turnEach[T any](t *testing.T, kind reflect.Kind, values ...T) {
	t.Helper()
	for _, n := range slices.Concat(plain(), varied()) {
		leaves(reflect.ValueOf(&n).Elem(), func(v reflect.Value) {
			if v.Kind() != kind {
				return
			}
			old := reflect.ValueOf(v.Interface())
			for _, value := range values {
				v.Set(reflect.ValueOf(value).Convert(v.Type()))
				holdsCheck(t, n)
			}
			v.Set(old)
		})
	}
}

// TestNumbers: P3.1 and P3.2, each number of each note turned into each edge.
func TestNumbers(t *testing.T) {
	turnEach(t, reflect.Int, math.MinInt, -1<<32, -2, -1, 0, 1, 2, 3, 4, 5, 25, most-1, most, most+1, 1<<32, math.MaxInt)
}

// TestTexts: P3.1, each text of each note turned into places, names and texts of edge lengths.
func TestTexts(t *testing.T) {
	turnEach(t, reflect.String,
		"", "/", "/a", "a", "/a/", "//a", "/a/b", "/.", "/..", ".", "..", "...", "a/b", "/a b", "\xff", " ",
		longPlace, longPlace+"n", longPlace+"/n", longPlace+strings.Repeat("/", 99), longName, longName+"n", "/"+longName+"n",
		longData, longData+"d", longRaw, longRaw+"\x00", strings.Repeat("s", api.MaxState), strings.Repeat("s", api.MaxState+1), strings.Repeat("/a", 1<<20),
	)
}

// TestTruths: P3.1, an event that says it is a marker, and a marker that says it is an event.
func TestTruths(t *testing.T) {
	turnEach(t, reflect.Bool, false, true)
	event, marker := someEvent(1), someMarker(1)
	event.Marker, marker.Marker = true, false
	for _, item := range []api.Item{event, marker} {
		if code := note.Check(deliverOf(item)); code != api.ErrNote {
			t.Errorf("P3.1: %d: %v", code, item)
		}
	}
}

// stretch is a list of so many elements, each like the first, with what must rise rising.
func stretch(list reflect.Value, count int) reflect.Value {
	long := reflect.MakeSlice(list.Type(), count, count)
	for i := range count {
		if list.Len() > 0 {
			long.Index(i).Set(list.Index(0))
		}
		switch e := long.Index(i).Addr().Interface().(type) {
		case *int:
			*e = i + 1
		case *api.Watch:
			e.Id = i + 1
		case *api.Item:
			e.Stamp = i
		}
	}
	return long
}

// TestCounts: P3.1, each list of each note in each length up to one more than the greatest, and in great lengths.
func TestCounts(t *testing.T) {
	counts := append(times(api.MaxNodes+2, func(i int) int { return i }), 255, 256, 1<<16, 1<<18)
	for _, n := range plain() {
		leaves(reflect.ValueOf(&n).Elem(), func(v reflect.Value) {
			if v.Kind() != reflect.Slice {
				return
			}
			old := reflect.ValueOf(v.Interface())
			for _, count := range counts {
				v.Set(stretch(old, count))
				holdsCheck(t, n)
			}
			v.Set(old)
		})
	}
}

// limit is the least and the greatest that something may be, in the document's own numbers, and a note that has k of it.
type limit struct {
	what      string
	low, high int
	noteOf    func(k int) api.Note
}

func emptyShots(count int) []api.Part {
	return times(count, func(int) api.Part { return api.Part{Id: 1, Shot: api.Shot{Place: "/", Kind: 1}} })
}

func eventOf(changes, tags int) api.Note {
	tagged := api.Tagged{Change: api.Change{Kind: 1, Place: "/"}, Tags: times(tags, func(i int) int { return i + 1 })}
	return deliverOf(api.Item{Changes: times(changes, func(int) api.Tagged { return tagged })})
}

func requestOf(ops int) api.Entry {
	return api.Entry{Stamp: 1, Kind: 1, Session: 1, Request: 1, Ops: make([]api.Op, ops)}
}

func deliverTo(watches ...api.Watch) api.Note {
	n := deliverOf(someEvent(1))
	n.Watches = watches
	return n
}

func countLimits() []limit {
	ids := func(k int) []api.Watch { return times(k, func(i int) api.Watch { return api.Watch{Id: i + 1} }) }
	full := func(k int) []api.Watch {
		return times(k, func(int) api.Watch { return api.Watch{Id: 1, Place: "/", Kind: 1} })
	}
	shotOf := func(k int) api.Shot {
		return api.Shot{Place: "/", Kind: 1, Nodes: times(k, func(int) api.Seen { return api.Seen{Place: "/"} })}
	}
	kids := func(k int) []string { return times(k, func(int) string { return "k" }) }
	later := func(k int) []api.Item { return times(k, func(i int) api.Item { return someEvent(i + 1) }) }
	return []limit{
		{"ops", 0, 4, func(k int) api.Note { return callOf(make([]api.Op, k)...) }},
		{"entries", 0, 16, func(k int) api.Note { return appendOf(times(k, func(int) api.Entry { return requestOf(0) })...) }},
		{"an entry's ops", 0, 4, func(k int) api.Note { return appendOf(requestOf(k)) }},
		{"watches resumed", 0, 4, func(k int) api.Note { return withWatches(api.NoteResume, full(k)...) }},
		{"watches asked for", 1, 1, func(k int) api.Note { return withWatches(api.NoteWatch, full(k)...) }},
		{"watches given up", 1, 1, func(k int) api.Note { return withWatches(api.NoteUnwatch, ids(k)...) }},
		{"watches that are no more", 1, 1, func(k int) api.Note { return withWatches(api.NoteUnwatched, ids(k)...) }},
		{"watches delivered to", 0, 4, func(k int) api.Note { return deliverTo(ids(k)...) }},
		{"results", 0, 4, func(k int) api.Note { return answerOf(make([]api.Result, k)...) }},
		{"kids", 0, 64, func(k int) api.Note { return answerOf(api.Result{Kids: kids(k)}) }},
		{"parts", 1, 1, func(k int) api.Note { return watchedOf(api.OK, emptyShots(k)...) }},
		{"parts of a refusal", 1, 1, func(k int) api.Note {
			return watchedOf(api.ErrFull, times(k, func(int) api.Part { return api.Part{Id: 1} })...)
		}},
		{"nodes", 0, 64, func(k int) api.Note { return watchedOf(api.OK, api.Part{Id: 1, Shot: shotOf(k)}) }},
		{"items", 1, 8, func(k int) api.Note { return deliverOf(times(k, someEvent)...) }},
		{"items behind a marker", 0, 7, func(k int) api.Note { return deliverOf(append([]api.Item{someMarker(0)}, later(k)...)...) }},
		{"parts of a marker", 1, 4, func(k int) api.Note { return deliverOf(api.Item{Marker: true, Parts: emptyShots(k)}) }},
		{"changes", 1, 64, func(k int) api.Note { return eventOf(k, 1) }},
		{"tags", 1, 4, func(k int) api.Note { return eventOf(1, k) }},
	}
}

func lengthLimits() []limit {
	text := func(k int) string { return strings.Repeat("x", k) }
	seen := func(k int) api.Shot {
		return api.Shot{Place: "/", Kind: 1, Nodes: []api.Seen{{Place: "/", Data: text(k)}}}
	}
	return []limit{
		{"an op's place", 0, 256, func(k int) api.Note { return callOf(api.Op{Place: text(k)}) }},
		{"an op's data", 0, 256, func(k int) api.Note { return callOf(api.Op{Data: text(k)}) }},
		{"a result's data", 0, 64, func(k int) api.Note { return answerOf(api.Result{Data: text(k)}) }},
		{"a kid's bytes", 1, 16, func(k int) api.Note { return answerOf(api.Result{Kids: []string{text(k)}}) }},
		{"a node's data", 0, 64, func(k int) api.Note { return watchedOf(api.OK, api.Part{Id: 1, Shot: seen(k)}) }},
		{"a change's data", 0, 64, func(k int) api.Note {
			n := eventOf(1, 1)
			n.Items[0].Changes[0].Change.Data = text(k)
			return n
		}},
		{"state", 0, 200000, func(k int) api.Note { return api.Note{Kind: api.NoteFull, View: inView(1), State: text(k)} }},
	}
}

func numberLimits() []limit {
	return []limit{
		{"a session's number", 1, 2147483647, func(k int) api.Note { return api.Note{Kind: api.NoteOpen, Session: k} }},
		{"a view's number", 1, 2147483647, func(k int) api.Note { return api.Note{Kind: api.NoteProbe, View: inView(k)} }},
		{"a told view's number", 0, 2147483647, func(k int) api.Note { return api.Note{Kind: api.NoteTell, View: inView(k)} }},
		{"a stamp", 0, 2147483647, func(k int) api.Note { return api.Note{Kind: api.NoteAcked, View: inView(1), Stamp: k} }},
		{"a code", 0, 2147483647, func(k int) api.Note {
			return api.Note{Kind: api.NoteOpened, View: inView(1), Session: 1, Code: api.Errno(k)}
		}},
		{"a version", -1, 2147483647, func(k int) api.Note { return callOf(api.Op{Version: k}) }},
	}
}

// TestLimits: P3.1, the least and the greatest of everything, and one less and one more of each.
func TestLimits(t *testing.T) {
	counts := slices.Concat(countLimits(), lengthLimits())
	for _, l := range slices.Concat(counts, numberLimits()) {
		for k, want := range map[int]api.Errno{l.low: api.OK, l.high: api.OK, l.high + 1: api.ErrNote} {
			if code := note.Check(l.noteOf(k)); code != want {
				t.Errorf("P3.1: %s, %d: %d, want %d", l.what, k, code, want)
			}
		}
	}
	noLess := func(l limit) bool { return l.low == 0 }
	for _, l := range append(slices.DeleteFunc(counts, noLess), numberLimits()...) {
		if code := note.Check(l.noteOf(l.low - 1)); code != api.ErrNote {
			t.Errorf("P3.1: %s, %d: %d, want ErrNote", l.what, l.low-1, code)
		}
	}
}

// TestOrderWithin: P3.1, what must rise, what need not, and where a marker may stand.
func TestOrderWithin(t *testing.T) {
	tags := func(l ...int) api.Note {
		return deliverOf(api.Item{Changes: []api.Tagged{{Change: api.Change{Kind: 1, Place: "/"}, Tags: l}}})
	}
	ids := func(l ...int) api.Note {
		return deliverTo(times(len(l), func(i int) api.Watch { return api.Watch{Id: l[i]} })...)
	}
	resumed := withWatches(api.NoteResume, api.Watch{Id: 2, Place: "/", Kind: 1}, api.Watch{Id: 2, Place: "/", Kind: 1}, api.Watch{Id: 1, Place: "/", Kind: 1})
	part := func(id int) api.Part { return api.Part{Id: id, Shot: someShot()} }
	for what, c := range map[string]struct {
		n    api.Note
		code api.Errno
	}{
		"tags rise":                    {tags(1, 2, most), api.OK},
		"tags the same":                {tags(1, 1), api.ErrNote},
		"tags fall":                    {tags(2, 1), api.ErrNote},
		"tags fall at the end":         {tags(1, 2, 3, 2), api.ErrNote},
		"a tag 0":                      {tags(0, 1), api.ErrNote},
		"a tag below 0":                {tags(-1), api.ErrNote},
		"ids rise":                     {ids(1, 2, 5), api.OK},
		"ids the same":                 {ids(2, 2), api.ErrNote},
		"ids fall":                     {ids(1, 3, 2), api.ErrNote},
		"resumed watches in any order": {resumed, api.OK},
		"stamps rise":                  {deliverOf(someEvent(0), someEvent(1), someEvent(most)), api.OK},
		"stamps the same":              {deliverOf(someEvent(1), someEvent(1)), api.ErrNote},
		"stamps fall":                  {deliverOf(someEvent(1), someEvent(3), someEvent(2)), api.ErrNote},
		"a marker and an event":        {deliverOf(someMarker(1), someEvent(2)), api.OK},
		"a marker, the stamp the same": {deliverOf(someMarker(2), someEvent(2)), api.ErrNote},
		"an event and a marker":        {deliverOf(someEvent(1), someMarker(2)), api.ErrNote},
		"two markers":                  {deliverOf(someMarker(1), someMarker(2)), api.ErrNote},
		"a marker at the end":          {deliverOf(someEvent(1), someEvent(2), someMarker(3)), api.ErrNote},
		"parts in any order":           {deliverOf(api.Item{Marker: true, Parts: []api.Part{part(2), part(2), part(1)}}), api.OK},
		"entries in any order":         {appendOf(someRequest(), someRequest(), api.Entry{Stamp: 1, Kind: 2, Session: 1}), api.OK},
	} {
		if code := note.Check(c.n); code != c.code {
			t.Errorf("P3.1: %s: %d, want %d", what, code, c.code)
		}
	}
}

// TestRefusedWatch: P3.1, the shot of NoteWatched hangs on its code.
func TestRefusedWatch(t *testing.T) {
	for _, code := range []api.Errno{1, api.ErrFull, most} {
		if got := note.Check(watchedOf(code, api.Part{Id: 1})); got != api.OK {
			t.Errorf("P3.1: refused by %d: %d", code, got)
		}
		for _, s := range []api.Shot{someShot(), {Stamp: 1}, {Place: "/"}, {Kind: 1}, {Nodes: make([]api.Seen, 1)}} {
			if got := note.Check(watchedOf(code, api.Part{Id: 1, Shot: s})); got != api.ErrNote {
				t.Errorf("P3.1: refused by %d with %v: %d", code, s, got)
			}
		}
	}
	if got := note.Check(watchedOf(api.OK, api.Part{Id: 1})); got != api.ErrNote {
		t.Errorf("P3.1: granted without a shot: %d", got)
	}
}

// TestNamedWatches: P3.1, where only a watch's Id is told, all else is zero.
func TestNamedWatches(t *testing.T) {
	for _, w := range []api.Watch{{Id: 1, Place: "/"}, {Id: 1, Kind: 1}, {Id: 1, From: 1}, {Id: 1, Place: "/", Kind: 1}, {}, {Id: -1}, {Id: most + 1}} {
		for _, n := range []api.Note{withWatches(api.NoteUnwatch, w), withWatches(api.NoteUnwatched, w), deliverTo(w)} {
			if code := note.Check(n); code != api.ErrNote {
				t.Errorf("P3.1: kind %d with %v: %d", n.Kind, w, code)
			}
		}
	}
	for _, w := range []api.Watch{{Id: 1}, {Id: 1, Place: "/"}, {Id: 1, Kind: 1}, {Place: "/", Kind: 1}, {Id: 1, Place: "/", Kind: 4}, {Id: 1, Place: "/", Kind: 1, From: -1}} {
		for _, n := range []api.Note{withWatches(api.NoteWatch, w), withWatches(api.NoteResume, w)} {
			if code := note.Check(n); code != api.ErrNote {
				t.Errorf("P3.1: kind %d with %v: %d", n.Kind, w, code)
			}
		}
	}
}

// TestEntriesMayBe: P3.2, alone and in a note, by the document's words and by the second reckoning.
func TestEntriesMayBe(t *testing.T) {
	ops := func(count int) []api.Op { return times(count, func(int) api.Op { return someOp() }) }
	for _, c := range []struct {
		e  api.Entry
		ok bool
	}{
		{api.Entry{Stamp: 1, View: 0, Kind: 1, Session: 1, Request: 1}, true},
		{api.Entry{Stamp: most, View: most, Kind: 1, Session: most, Request: most, Ops: ops(4)}, true},
		{api.Entry{Stamp: 1, Kind: 2, Session: 1}, true},
		{api.Entry{Stamp: 1, Kind: 3, Session: 1}, true},
		{api.Entry{Stamp: 1, Kind: 4, Session: 1}, true},
		{api.Entry{}, false},
		{api.Entry{Kind: 2, Session: 1}, false},
		{api.Entry{Stamp: 1, Kind: 2}, false},
		{api.Entry{Stamp: 1, Kind: 0, Session: 1}, false},
		{api.Entry{Stamp: 1, Kind: 5, Session: 1}, false},
		{api.Entry{Stamp: 1, View: -1, Kind: 2, Session: 1}, false},
		{api.Entry{Stamp: 1, View: most + 1, Kind: 2, Session: 1}, false},
		{api.Entry{Stamp: 1, Kind: 1, Session: 1}, false},
		{api.Entry{Stamp: 1, Kind: 1, Session: 1, Request: 1, Ops: ops(5)}, false},
		{api.Entry{Stamp: 1, Kind: 1, Session: 1, Request: 1, Ops: []api.Op{{Version: -2}}}, false},
		{api.Entry{Stamp: 1, Kind: 2, Session: 1, Request: 1}, false},
		{api.Entry{Stamp: 1, Kind: 3, Session: 1, Request: 1}, false},
		{api.Entry{Stamp: 1, Kind: 4, Session: 1, Request: 1}, false},
		{api.Entry{Stamp: 1, Kind: 2, Session: 1, Ops: ops(1)}, false},
		{api.Entry{Stamp: 1, Kind: 3, Session: 1, Ops: ops(1)}, false},
		{api.Entry{Stamp: 1, Kind: 4, Session: 1, Ops: ops(1)}, false},
	} {
		want := api.ErrNote
		if c.ok {
			want = api.OK
		}
		data, code := note.EncodeEntry(c.e)
		if code != want || (data != nil) != c.ok || entryMayBe(c.e) != c.ok {
			t.Errorf("P3.2: EncodeEntry(%v) = %d bytes, %d, want %d", c.e, len(data), code, want)
		}
		if code := note.Check(appendOf(someRequest(), c.e)); code != want {
			t.Errorf("P3.2: a note with %v: %d, want %d", c.e, code, want)
		}
	}
}

// bend turns a leaf by chance into something near to what may be.
func bend(chance *rand.Rand, v reflect.Value) {
	switch v.Kind() {
	case reflect.Int:
		v.SetInt([]int64{-1, 0, 1, 2, 3, 4, 9, most, most + 1}[chance.Intn(9)])
	case reflect.String:
		v.SetString([]string{"", "/", "/a", "a", "/a/b", longPlace, longData, longData + "x", longRaw}[chance.Intn(9)])
	case reflect.Bool:
		v.SetBool(!v.Bool())
	case reflect.Slice:
		v.Set(stretch(reflect.ValueOf(v.Interface()), chance.Intn(10)))
	}
}

// TestBentNotes: P3.1, notes with several leaves turned at once.
func TestBentNotes(t *testing.T) {
	chance := rand.New(rand.NewSource(3))
	may := 0
	for range 1000 {
		for _, n := range slices.Concat(plain(), varied()) {
			odds := chance.Intn(20) + 1
			leaves(reflect.ValueOf(&n).Elem(), func(v reflect.Value) {
				if chance.Intn(20) < 20/odds/4 {
					bend(chance, v)
				}
			})
			if holdsCheck(t, n) {
				may++
			}
		}
		if t.Failed() {
			return
		}
	}
	if may < 1000 {
		t.Errorf("only %d of the bent notes may be", may)
	}
}
