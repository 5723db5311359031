package trie_test

import (
	"cmp"
	"maps"
	"path"
	"regexp"
	"slices"
	"strings"
	"testing"

	"herald/api"
	"herald/trie"
)

// again is a trie by other means: one list of all watches, in the order in which they came.
type again struct{ rows []row }

var placeShape = regexp.MustCompile(`^(/|(/[A-Za-z0-9_.-]{1,16}){1,6})$`)

func isPlace(text string) bool {
	names := strings.Split(text, "/")
	return placeShape.MatchString(text) && !slices.Contains(names, ".") && !slices.Contains(names, "..")
}

// above are the places above one, the nearest first.
func above(text string) []string {
	var all []string
	for text != "/" {
		text = path.Dir(text)
		all = append(all, text)
	}
	return all
}

// isChange tells whether there is a change of that kind, at that place.
func isChange(c api.Change) bool { return c.Kind >= 1 && c.Kind <= 3 && isPlace(c.Place) }

// covers is the table of P1.7 by other means, of changes that there are.
func covers(w api.Watch, c api.Change) bool {
	up := above(c.Place)
	switch w.Kind {
	case api.WatchNode:
		return c.Place == w.Place
	case api.WatchKids:
		return c.Kind != api.ChangeSet && (c.Place == w.Place || len(up) > 0 && up[0] == w.Place)
	}
	return c.Place == w.Place || slices.Contains(up, w.Place)
}

func (g *again) of(session int) []row {
	var own []row
	for _, r := range g.rows {
		if r.session == session {
			own = append(own, r)
		}
	}
	slices.SortFunc(own, func(a, b row) int { return a.watch.Id - b.watch.Id })
	return own
}

func (g *again) has(tag api.Tag) bool {
	return slices.ContainsFunc(g.rows, func(r row) bool { return r.tag() == tag })
}

func number(n, least int) bool { return n >= least && n <= 2147483647 }

// adds is P9.1, error by error.
func (g *again) adds(r row) api.Errno {
	switch {
	case !number(r.session, 1), !number(r.watch.Id, 1), !number(r.watch.From, 0):
		return api.ErrNumber
	case !isPlace(r.watch.Place):
		return api.ErrPlace
	case r.watch.Kind < 1, r.watch.Kind > 3, g.has(r.tag()):
		return api.ErrWatch
	case len(g.of(r.session)) == 4:
		return api.ErrFull
	}
	g.rows = append(g.rows, r)
	return api.OK
}

func (g *again) drops(tag api.Tag) api.Errno {
	if !g.has(tag) {
		return api.ErrWatch
	}
	g.rows = slices.DeleteFunc(g.rows, func(r row) bool { return r.tag() == tag })
	return api.OK
}

func (g *again) forgets(session int) int {
	before := len(g.rows)
	g.rows = slices.DeleteFunc(g.rows, func(r row) bool { return r.session == session })
	return before - len(g.rows)
}

func byTags(a, b api.Tag) int {
	return cmp.Or(cmp.Compare(a.Session, b.Session), cmp.Compare(a.Id, b.Id))
}

func (g *again) matches(stamp int, c api.Change) []api.Tag {
	if !isChange(c) {
		return nil
	}
	var all []api.Tag
	for _, r := range g.rows {
		if r.watch.From < stamp && covers(r.watch, c) {
			all = append(all, r.tag())
		}
	}
	slices.SortFunc(all, byTags)
	return all
}

// size counts the places that are watched or above those, and the root.
func (g *again) size() int {
	there := map[string]int{"/": 1}
	for _, r := range g.rows {
		for _, at := range append(above(r.watch.Place), r.watch.Place) {
			there[at]++
		}
	}
	return len(there)
}

// key is a place with a byte ahead of all others in the place of each slash: so plain bytes put it in its order.
func key(place string) string { return strings.ReplaceAll(place, "/", "\x00") }

func (g *again) marks() []mark {
	all := marks(g.rows...)
	slices.SortFunc(all, func(a, b mark) int {
		return cmp.Or(strings.Compare(key(a.place), key(b.place)), byTags(a.tag, b.tag))
	})
	return all
}

// sessions are those that there are, those next to them, and some that there never are.
func (g *again) sessions() []int {
	all := map[int]int{0: 0, -1: 0, 1: 0, most: 0, most + 1: 0}
	for _, r := range g.rows {
		all[r.session]++
		all[r.session-1]++
		all[r.session+1]++
	}
	return slices.Sorted(maps.Keys(all))
}

// changed are the places that are watched, those above and below them, and some that are near to them as texts alone.
func (g *again) changed() []string {
	all := map[string]int{"/": 0, "/zz": 0, "a": 0}
	for _, r := range g.rows {
		at := strings.TrimSuffix(r.watch.Place, "/")
		for _, near := range []string{at, at + "/a", at + "/a/b", at + "/", at + "-", at + "a", path.Dir(r.watch.Place), path.Dir(at) + "/q"} {
			all[near]++
		}
	}
	return slices.Sorted(maps.Keys(all))
}

// stands holds what a trie tells of all its watches.
func (g *again) stands(t *testing.T, x *trie.Trie) {
	t.Helper()
	walks(t, x, g.marks()...)
	count(t, "P9.5: Size", x.Size(), g.size())
	for _, session := range g.sessions() {
		var own []api.Watch
		for _, r := range g.of(session) {
			own = append(own, r.watch)
		}
		has(t, x, session, own...)
	}
	if t.Failed() {
		t.Fatalf("P9.1 to P9.6: the trie is not what the calls make: %s", tell(g.rows))
	}
}

// isLike holds all that a trie tells, of changes near to its watches too.
func (g *again) isLike(t *testing.T, x *trie.Trie) {
	t.Helper()
	g.stands(t, x)
	stamps := map[int]int{0: 0, 1: 0, most: 0, most + 1: 0}
	for _, r := range g.rows {
		stamps[r.watch.From]++
		stamps[r.watch.From+1]++
	}
	for _, at := range g.changed() {
		for kind := 0; kind <= 4; kind++ {
			for stamp := range stamps {
				matches(t, x, stamp, change(kind, at), g.matches(stamp, change(kind, at))...)
			}
		}
	}
	if t.Failed() {
		t.Fatalf("P9.3: the trie is not what the calls make: %s", tell(g.rows))
	}
}

// call is one call of Add, Drop or Forget; a Drop has the id and a Forget the session of its row.
type call struct {
	kind string
	row  row
}

// on tells what a trie answers, as one number.
func (c call) on(x *trie.Trie) int {
	switch c.kind {
	case "add":
		return int(x.Add(c.row.session, c.row.watch))
	case "drop":
		return int(x.Drop(c.row.session, c.row.watch.Id))
	}
	return x.Forget(c.row.session)
}

func (c call) again(g *again) int {
	switch c.kind {
	case "add":
		return int(g.adds(c.row))
	case "drop":
		return int(g.drops(c.row.tag()))
	}
	return g.forgets(c.row.session)
}

// both makes a call of a trie and of the other reckoning.
func both(t *testing.T, c call, x *trie.Trie, g *again) int {
	t.Helper()
	got, want := c.on(x), c.again(g)
	if got != want {
		t.Fatalf("P9.1, P9.2: %s = %d, want %d", tell(c), got, want)
	}
	return want
}

// somePlaces are near to one another, as places and as texts.
func somePlaces() []string {
	return []string{"/", "/a", "/a/b", "/a/b/c", "/a/b/c/d", "/a/b/c/d/e", "/a/b/c/d/e/f", "/a/c", "/a-b", "/a-b/c", "/a.b", "/ab", "/aa", "/A", "/b", "/b/a", "/b/b", "/a/a/a", "/-", "/_", "/0", "/..a", deepest(), path.Dir(deepest())}
}

// watch is one that is often taken, and at times one that may not be.
func (c chance) watch() row {
	r := watch(pick(c, 1, 2, 3, 4, 5, most), pick(c, 1, 2, 3, 4, 5, 6, most), pick(c, somePlaces()...), pick(c, 1, 2, 3), pick(c, 0, 0, 1, 2, 3, most-1, most))
	switch c.IntN(25) {
	case 0:
		r.session = pick(c, ends()...)
	case 1:
		r.watch.Id = pick(c, ends()...)
	case 2:
		r.watch.From = pick(c, ends()...)
	case 3:
		r.watch.Place = pick(c, noPlaces()...)
	case 4:
		r.watch.Kind = pick(c, append(ends(), 4)...)
	}
	return r
}

func (c chance) call(g *again) call {
	r := c.watch()
	kind := pick(c, "add", "add", "add", "add", "add", "drop", "drop", "drop", "forget")
	if kind == "drop" && len(g.rows) > 0 && c.IntN(4) > 0 {
		r = pick(c, g.rows...)
	}
	return call{kind, r}
}

// TestScripts: P9.1 to P9.7, along scripts of calls.
func TestScripts(t *testing.T) {
	seen := map[string]int{}
	for seed := range uint64(150) {
		c := chanceOf(seed, 9)
		x, g := trie.New(), &again{}
		for i := range 120 {
			next := c.call(g)
			answer := both(t, next, x, g)
			seen[next.kind+" "+tell(answer)]++
			g.stands(t, x)
			if i%15 == 0 {
				g.isLike(t, x)
			}
		}
	}
	for _, kind := range []string{"add 0", "add 3", "add 10", "add 46", "add 90", "drop 0", "drop 90", "forget 0", "forget 1", "forget 2", "forget 3", "forget 4"} {
		if seen[kind] < 50 {
			t.Errorf("the scripts have %q only %d times", kind, seen[kind])
		}
	}
}

// letters are the calls of small scripts.
func letters() []call {
	return []call{
		{"add", watch(1, 1, "/", 3, 0)},
		{"add", watch(1, 2, "/a", 2, 1)},
		{"add", watch(2, 1, "/a/b", 1, 0)},
		{"add", watch(2, 2, "/a", 1, 2)},
		{"drop", watch(1, 1, "", 0, 0)},
		{"drop", watch(1, 2, "", 0, 0)},
		{"drop", watch(2, 1, "", 0, 0)},
		{"forget", watch(1, 0, "", 0, 0)},
		{"forget", watch(2, 0, "", 0, 0)},
	}
}

// TestAllSmallScripts: P9.1 to P9.7, all scripts of up to five calls out of nine, on a new and on a zero trie.
func TestAllSmallScripts(t *testing.T) {
	all := letters()
	scripts := 1
	for length := 1; length <= 5; length++ {
		scripts *= len(all)
		for script := range scripts {
			x, g := trie.New(), &again{}
			if script%2 == 0 {
				x = &trie.Trie{}
			}
			for range length {
				both(t, all[script%len(all)], x, g)
				script /= len(all)
			}
			// The longest scripts are many: what all others hold is enough of a look at Match.
			if length < 5 {
				g.isLike(t, x)
			} else {
				g.stands(t, x)
			}
		}
	}
}
