package trie_test

import (
	"fmt"
	"math"
	"math/rand/v2"
	"slices"
	"strings"
	"testing"

	"herald/api"
	"herald/trie"
)

const most = api.MaxNumber

// ends are numbers at and around the ends of what a number may be, and of what an int can be.
func ends() []int {
	return []int{math.MinInt, math.MinInt + 1, -most - 1, -most, -1, 0, 1, 2, most - 1, most, most + 1, 1 << 32, 1<<32 + 1, math.MaxInt - 1, math.MaxInt}
}

// row is a watch with its session.
type row struct {
	session int
	watch   api.Watch
}

func watch(session, id int, place string, kind, from int) row {
	return row{session, api.Watch{Id: id, Place: place, Kind: kind, From: from}}
}

func (r row) tag() api.Tag { return api.Tag{Session: r.session, Id: r.watch.Id} }

// mark is what a range over Walk is handed at one time.
type mark struct {
	place string
	tag   api.Tag
}

func (r row) mark() mark { return mark{r.watch.Place, r.tag()} }

func marks(rows ...row) []mark {
	var all []mark
	for _, r := range rows {
		all = append(all, r.mark())
	}
	return all
}

func walked(x *trie.Trie) []mark {
	var all []mark
	for at, tag := range x.Walk() {
		all = append(all, mark{at, tag})
	}
	return all
}

func change(kind int, place string) api.Change { return api.Change{Kind: kind, Place: place} }

func made(place string) api.Change { return change(api.ChangeMade, place) }
func set(place string) api.Change  { return change(api.ChangeSet, place) }
func gone(place string) api.Change { return change(api.ChangeGone, place) }

// tags are sessions and ids by turns.
func tags(numbers ...int) []api.Tag {
	var all []api.Tag
	for pair := range slices.Chunk(numbers, 2) {
		all = append(all, api.Tag{Session: pair[0], Id: pair[1]})
	}
	return all
}

// chapterRows are the watches of the chapter's examples.
func chapterRows() []row {
	return []row{
		watch(1, 1, "/a", api.WatchNode, 0),
		watch(1, 2, "/a", api.WatchKids, 0),
		watch(2, 1, "/", api.WatchSubtree, 5),
		watch(2, 7, "/a/b/c", api.WatchNode, 0),
	}
}

func holding(t *testing.T, rows ...row) *trie.Trie {
	t.Helper()
	x := trie.New()
	adds(t, x, rows...)
	return x
}

func adds(t *testing.T, x *trie.Trie, rows ...row) {
	t.Helper()
	for _, r := range rows {
		is(t, "P9.1: Add of "+tell(r), x.Add(r.session, r.watch), api.OK)
	}
}

func is(t *testing.T, what string, got, want api.Errno) {
	t.Helper()
	if got != want {
		t.Errorf("%s says %d, want %d", what, got, want)
	}
}

func count(t *testing.T, what string, got, want int) {
	t.Helper()
	if got != want {
		t.Errorf("%s is %d, want %d", what, got, want)
	}
}

func matches(t *testing.T, x *trie.Trie, stamp int, c api.Change, want ...api.Tag) {
	t.Helper()
	if got := x.Match(stamp, c); !slices.Equal(got, want) {
		t.Errorf("P9.3: Match(%d, %s) = %v, want %v", stamp, tell(c), got, want)
	}
}

func has(t *testing.T, x *trie.Trie, session int, want ...api.Watch) {
	t.Helper()
	if got := x.Of(session); !slices.Equal(got, want) {
		t.Errorf("P9.4: Of(%d) = %s, want %s", session, tell(got), tell(want))
	}
}

func walks(t *testing.T, x *trie.Trie, want ...mark) {
	t.Helper()
	if got := walked(x); !slices.Equal(got, want) {
		t.Errorf("P9.6: Walk hands on %s, want %s", tell(got), tell(want))
	}
}

// tell is a value as a text that is not too long to be read.
func tell(v any) string {
	return fmt.Sprintf("%.500s", fmt.Sprintf("%+v", v))
}

// deepest has as many names as a place may have, each as long as it may be.
func deepest() string { return strings.Repeat("/abcdefghijklmnop", api.MaxDepth) }

// noPlaces are texts that are no place, of every sort.
func noPlaces() []string {
	return []string{"", "a", "//", "/a/", "//a", "/a//b", "/.", "/..", "/a/..", "/a b", "/a\x00", "/\xff", "a/b", " /a", "/a\n", "/é",
		strings.Repeat("/a", api.MaxDepth+1), "/abcdefghijklmnopq", deepest() + "/", deepest() + "q", strings.Repeat("/", 103), strings.Repeat("/a", 50000), "/" + strings.Repeat("x", 1<<20)}
}

// chance makes the same calls in every run.
type chance struct{ *rand.Rand }

func chanceOf(seed, kind uint64) chance { return chance{rand.New(rand.NewPCG(seed, kind))} }

func pick[T any](c chance, from ...T) T { return from[c.IntN(len(from))] }
