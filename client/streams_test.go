package client_test

import (
	"slices"
	"testing"

	"herald/api"
	"herald/place"
	"herald/shot"
	"herald/tree"
)

// part1 is a part of the tree: of a place, for a kind of watches.
type part1 struct {
	place string
	kind  int
}

// story is the history of a plain tree: what each entry has changed, and all parts behind it.
type story struct {
	changes [][]api.Change
	parts   []map[part1]api.Shot
}

// goOn puts the changes of the next entry behind the others.
func (s *story) goOn(on *tree.Tree, changes []api.Change) {
	stamp := len(s.changes)
	s.add(changes, func(at string, kind int) (api.Shot, api.Errno) { return shot.Take(on, stamp, at, kind) })
}

func (s *story) add(changes []api.Change, part func(at string, kind int) (api.Shot, api.Errno)) {
	all := map[part1]api.Shot{}
	for _, at := range somePlaces {
		for kind := api.WatchNode; kind <= api.WatchSubtree; kind++ {
			all[part1{at, kind}], _ = part(at, kind)
		}
	}
	s.changes, s.parts = append(s.changes, changes), append(s.parts, all)
}

func (s *story) end() int { return len(s.changes) - 1 }

func (s *story) part(stamp int, w api.Watch) api.Part {
	return api.Part{Id: w.Id, Shot: s.parts[stamp][part1{w.Place, w.Kind}]}
}

// story is one by chance.
func (c chance) story(size int) *story {
	on, s := tree.New(), &story{}
	s.goOn(on, nil)
	for stamp := 1; stamp <= size; stamp++ {
		session := 1 + c.IntN(3)
		if c.IntN(12) == 0 {
			s.goOn(on, on.End(session))
			continue
		}
		var changes []api.Change
		for try := 0; try < 6 && len(changes) == 0; try++ {
			_, changes = on.Play(session, stamp, c.turns()...)
		}
		s.goOn(on, changes)
	}
	return s
}

// turns are ops that change something, if they fit.
func (c chance) turns() []api.Op {
	var ops []api.Op
	for range pick(c, 1, 1, 2, 3) {
		ops = append(ops, api.Op{Kind: pick(c, api.OpMake, api.OpMake, api.OpMake, api.OpSet, api.OpSet, api.OpDrop), Place: c.place(), Data: pick(c, "", "x", "data"), Version: -1, Flags: pick(c, 0, 0, 0, api.FlagBrief)})
	}
	return ops
}

// eventAt is what an entry is for watches, each of which is told what comes behind its From; false, if it is for none.
func (s *story) eventAt(stamp, after int, watches []api.Watch) (api.Item, bool) {
	item := event(stamp, after)
	for _, change := range s.changes[stamp] {
		tagged := api.Tagged{Change: change}
		for _, w := range watches {
			if w.From < stamp && place.Covers(w.Kind, w.Place, change.Kind, change.Place) {
				tagged.Tags = append(tagged.Tags, w.Id)
			}
		}
		if len(tagged.Tags) > 0 {
			item.Changes = append(item.Changes, tagged)
		}
	}
	return item, len(item.Changes) > 0
}

func (s *story) markerAt(stamp, after int, watches []api.Watch) api.Item {
	item := marker(stamp, after)
	for _, w := range watches {
		item.Parts = append(item.Parts, s.part(stamp, w))
	}
	return item
}

// stream is an honest one: all that there is for watches behind a stamp, up to another one; now and then a marker stands for some of it.
func (c chance) stream(s *story, after, end int, watches []api.Watch, markers int) []api.Item {
	var items []api.Item
	add := func(item api.Item) {
		items = append(items, item)
		after = item.Stamp
	}
	for stamp := after + 1; stamp <= end; stamp++ {
		if len(watches) > 0 && markers > 0 && c.IntN(markers) == 0 {
			stamp = min(end, stamp+c.IntN(3))
			add(s.markerAt(stamp, after, watches))
			continue
		}
		if item, isOne := s.eventAt(stamp, after, watches); isOne {
			add(item)
		}
	}
	return items
}

// cut is some of the items, as they may stand in a note: in their order, a marker only ahead of the others.
func (c chance) cut(items []api.Item) []api.Item {
	from := c.IntN(len(items))
	var some []api.Item
	for _, item := range items[from:] {
		if len(some) == api.MaxWindow || item.Marker && len(some) > 0 || c.IntN(9) == 0 && len(some) > 0 {
			break
		}
		if c.IntN(6) > 0 {
			some = append(some, item)
		}
	}
	if len(some) == 0 {
		return items[from : from+1]
	}
	return some
}

// reader is a client that reads a story.
type reader struct {
	*life
	story *story
	g     *again // it knows what the client waits for
	laws  *laws
}

func (r *reader) does(x call) answer {
	r.t.Helper()
	a := x.both(r.t, r.c, r.g)
	r.laws.hold(a)
	return a
}

func (r *reader) reads(n api.Note) answer {
	r.t.Helper()
	return r.does(taking(r.g, 1, n))
}

// isTrue holds that each picture is the tree's part at its stamp.
func (r *reader) isTrue() {
	r.t.Helper()
	for _, p := range r.c.Pictures() {
		if want := r.story.part(p.Shot.Stamp, watch(p.Id, p.Shot.Place, p.Shot.Kind, 0)); !same(p, want) {
			r.t.Errorf("P15.13: the picture %s is not %s", tell(p), tell(want))
		}
	}
}

func readerOf(t *testing.T, s *story) *reader {
	t.Helper()
	r := &reader{life: born(t, 2, 3), story: s, g: startAgain(2, 3), laws: newLaws(t, 102, 3)}
	r.does(call{kind: "begin"})
	r.reads(opened(1, 2, api.OK))
	return r
}

// grants asks for a watch, and grants it at a stamp.
func (r *reader) grants(w part1, stamp int) {
	r.t.Helper()
	r.does(call{kind: "watch", place: w.place, number: w.kind})
	r.reads(watched(1, 2, r.g.conn, r.story.part(stamp, watch(r.g.top, w.place, w.kind, 0))))
	r.isTrue()
}

// granted are the watches as the client says them when it comes back.
func (r *reader) granted() []api.Watch {
	var list []api.Watch
	for _, p := range r.c.Pictures() {
		list = append(list, watch(p.Id, p.Shot.Place, p.Shot.Kind, p.Shot.Stamp))
	}
	return list
}

// note brings items under the present connection.
func (r *reader) note(items []api.Item) {
	r.t.Helper()
	_, before := r.c.Session()
	told := r.reads(delivers(1, 2, r.g.conn, r.g.ids(), items...)).told
	for _, x := range told {
		// What is told is the history's: no change, tag or part is of another make.
		at := slices.IndexFunc(items, func(item api.Item) bool { return item.Stamp == x.Stamp })
		if at < 0 || x.Item.Marker != items[at].Marker || x.Item.After != items[at].After {
			r.t.Errorf("P15.13: %s was not brought", tell(x.Item))
		}
	}
	r.isTrue()
	if _, last := r.c.Session(); last < before {
		r.t.Errorf("P15.9: last goes back from %d to %d", before, last)
	}
}

// inOrder brings every item behind all that stand ahead of it.
func (r *reader) inOrder(c chance, items []api.Item) {
	r.t.Helper()
	for len(items) > 0 {
		size := 1
		for size < min(len(items), api.MaxWindow) && !items[size].Marker && c.IntN(3) > 0 {
			size++
		}
		r.note(items[:size])
		if c.IntN(4) == 0 {
			r.note(items[:1])
		}
		items = items[size:]
	}
}

// TestHonestStreams: P15.13, of streams of a plain tree's history, cut into notes in any way: lost, late, doubled, in any order.
func TestHonestStreams(t *testing.T) {
	t.Parallel()
	events, markers := 0, 0
	for seed := range uint64(250) {
		c := chanceOf(seed, 1513)
		r := readerOf(t, c.story(60))
		for range 12 {
			_, last := r.c.Session()
			r.connects(c, last)
			items := c.stream(r.story, max(0, last-c.IntN(4)), min(r.story.end(), last+c.IntN(12)), r.granted(), pick(c, 0, 0, 4, 12))
			for range c.IntN(8) {
				if len(items) > 0 {
					r.note(c.cut(items))
				}
			}
			if len(items) > 0 && c.IntN(3) > 0 {
				r.inOrder(c, items)
				if _, z := r.c.Session(); z != max(last, items[len(items)-1].Stamp) {
					t.Errorf("P15.13: behind all items last is %d, not %d", z, items[len(items)-1].Stamp)
				}
			}
			if t.Failed() {
				t.Fatalf("seed %d", seed)
			}
		}
		events += r.laws.seen["event"]
		markers += r.laws.seen["marker"]
	}
	if events < 2000 || markers < 200 {
		t.Errorf("only %d events and %d markers were told", events, markers)
	}
}

// connects gives watches up, asks for new ones, and comes back with those that there are.
func (r *reader) connects(c chance, last int) {
	r.t.Helper()
	if ids := r.g.ids(); len(ids) > 0 && c.IntN(4) == 0 {
		id := pick(c, ids...)
		r.does(call{kind: "unwatch", number: id})
		r.reads(unwatched(1, 2, r.g.conn, id))
	}
	for range c.IntN(3) {
		if len(r.g.ids()) < api.MaxWatches {
			r.grants(part1{c.place(), 1 + c.IntN(3)}, min(r.story.end(), last+c.IntN(4)))
		}
	}
	if c.IntN(4) > 0 {
		r.reads(resumed(1, 2, r.g.conn, last, api.OK))
	}
}

// TestAllCuts: P15.13, of short streams: all scripts of two notes, each with any of its items.
func TestAllCuts(t *testing.T) {
	t.Parallel()
	for seed := range uint64(16) {
		c := chanceOf(seed, 1514)
		s := c.story(20)
		watchs := []api.Watch{watch(1, "/", api.WatchSubtree, 1), watch(2, "/a", api.WatchKids, 3)}
		items := c.stream(s, 0, s.end(), watchs, 4)[:4]
		cuts := allCuts(items)
		for script := range len(cuts) * len(cuts) {
			r := readerOf(t, s)
			r.grants(part1{"/", api.WatchSubtree}, 1)
			r.grants(part1{"/a", api.WatchKids}, 3)
			for rest := script; rest > 0; rest /= len(cuts) {
				r.note(cuts[rest%len(cuts)])
			}
			r.inOrder(c, items)
			if _, last := r.c.Session(); last != items[3].Stamp {
				t.Errorf("P15.13: behind all items last is %d, not %d", last, items[3].Stamp)
			}
			if t.Failed() {
				t.Fatalf("seed %d, script %d", seed, script)
			}
		}
	}
}

// allCuts are all lists of some of four items, as they may stand in a note.
func allCuts(items []api.Item) [][]api.Item {
	var cuts [][]api.Item
	for set := 1; set < 16; set++ {
		var some []api.Item
		for i, item := range items {
			if set>>i&1 == 1 && (!item.Marker || len(some) == 0) {
				some = append(some, item)
			}
		}
		cuts = append(cuts, some)
	}
	return cuts
}
