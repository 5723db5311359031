package queue_test

import (
	"fmt"
	"math"
	"math/rand/v2"
	"slices"
	"strconv"
	"strings"
	"testing"

	"herald/api"
	"herald/queue"
)

const most = api.MaxNumber

// ends are numbers at and around the ends of what a number may be, and of what an int can be.
func ends() []int {
	return []int{math.MinInt, math.MinInt + 1, -most - 1, -most, -1, 0, 1, 2, api.MaxQueue - 1, api.MaxQueue, api.MaxQueue + 1, most - 1, most, most + 1, 1 << 32, 1<<32 + 1, math.MaxInt - 1, math.MaxInt}
}

// tagged are one to three changes with something in every field, which those of no other stamp have.
func tagged(stamp int) []api.Tagged {
	var all []api.Tagged
	for i := range 1 + stamp%3 {
		name := strconv.Itoa(stamp) + "." + strconv.Itoa(i)
		c := api.Tagged{Change: api.Change{Kind: 1 + i, Place: "/place" + name, Data: "data" + name, Version: stamp + i}}
		for id := range 1 + (stamp+i)%api.MaxWatches {
			c.Tags = append(c.Tags, stamp+id)
		}
		all = append(all, c)
	}
	return all
}

// parts are one to four shots with something in every field, which those of no other stamp have; one of them may be without nodes.
func parts(stamp int) []api.Part {
	var all []api.Part
	for i := range 1 + stamp%api.MaxWatches {
		name := strconv.Itoa(stamp) + "." + strconv.Itoa(i)
		p := api.Part{Id: 1 + i, Shot: api.Shot{Stamp: stamp, Place: "/shot" + name, Kind: 1 + i%3}}
		for k := range (stamp + i) % 4 {
			p.Shot.Nodes = append(p.Shot.Nodes, api.Seen{Place: "/node" + name + "." + strconv.Itoa(k), Data: "seen" + name, Version: stamp + k})
		}
		all = append(all, p)
	}
	return all
}

// event and marker are items as puts and collapses of the samples make them.
func event(stamp, after int) api.Item {
	return api.Item{Stamp: stamp, After: after, Changes: tagged(stamp)}
}

func marker(stamp, after int) api.Item {
	return api.Item{Stamp: stamp, After: after, Marker: true, Parts: parts(stamp)}
}

// oddChanges are changes that no entry of a history has: of these nothing is asked but that they have tags.
func oddChanges() [][]api.Tagged {
	long := strings.Repeat("\xff\x00/", 100000)
	many := make([]api.Tagged, 5000)
	for i := range many {
		many[i].Tags = []int{0}
	}
	return [][]api.Tagged{
		{{Tags: []int{0}}},
		{{Tags: []int{math.MinInt, math.MaxInt, -1, -1}}},
		{{Change: api.Change{Kind: math.MinInt, Place: long, Data: long, Version: math.MaxInt}, Tags: make([]int, 10000)}},
		{{Change: api.Change{Kind: 9, Place: "no place", Version: -1}, Tags: []int{3, 2, 2}}, {Tags: []int{1}}},
		many,
	}
}

// oddParts are parts that no watch has: of these nothing is asked.
func oddParts() [][]api.Part {
	long := strings.Repeat("\xff\x00/", 100000)
	return [][]api.Part{
		{{}},
		{{Id: math.MinInt, Shot: api.Shot{Stamp: math.MaxInt, Place: long, Kind: -1, Nodes: []api.Seen{}}}, {}},
		{{Id: most + 1, Shot: api.Shot{Stamp: -1, Place: "no place", Nodes: []api.Seen{{}, {Place: long, Data: long, Version: math.MinInt}, {}}}}},
		make([]api.Part, 5000),
		{{Id: 1, Shot: api.Shot{Nodes: make([]api.Seen, 5000)}}},
	}
}

// untagged are changes of which at least one has no tag, or none at all.
func untagged() [][]api.Tagged {
	bare := api.Tagged{Change: api.Change{Kind: 1, Place: "/a"}}
	empty := api.Tagged{Change: api.Change{Kind: 1, Place: "/a"}, Tags: []int{}}
	hidden := api.Tagged{Tags: []int{1, 2}[:0]}
	full := tagged(2)
	return [][]api.Tagged{nil, {}, full[:0], {bare}, {empty}, {hidden}, {bare, full[0]}, {full[0], bare}, {full[0], empty, full[1]}, append(slices.Clone(full), hidden)}
}

func sameTagged(a, b api.Tagged) bool { return a.Change == b.Change && slices.Equal(a.Tags, b.Tags) }

func samePart(a, b api.Part) bool {
	return a.Id == b.Id && a.Shot.Stamp == b.Shot.Stamp && a.Shot.Place == b.Shot.Place && a.Shot.Kind == b.Shot.Kind && slices.Equal(a.Shot.Nodes, b.Shot.Nodes)
}

func same(a, b api.Item) bool {
	return a.Stamp == b.Stamp && a.After == b.After && a.Marker == b.Marker && slices.EqualFunc(a.Changes, b.Changes, sameTagged) && slices.EqualFunc(a.Parts, b.Parts, samePart)
}

func sameAll(a, b []api.Item) bool { return slices.EqualFunc(a, b, same) }

// tell is a value as a text that is not too long to be read.
func tell(v any) string {
	return fmt.Sprintf("%.500s", fmt.Sprintf("%+v", v))
}

func made(t *testing.T, room, begin int) *queue.Queue {
	t.Helper()
	q, code := queue.New(room, begin)
	if q == nil || code != api.OK {
		t.Fatalf("P10.1: New(%d, %d) = %v, %d", room, begin, q != nil, code)
	}
	return q
}

// filled is a queue that was gone round by so many items ahead, and then given so many events with the stamps behind these.
func filled(t *testing.T, room, ahead, events int) *queue.Queue {
	t.Helper()
	q := made(t, room, 0)
	for stamp := 1; stamp <= ahead+events; stamp++ {
		is(t, "P10.2: Put", q.Put(stamp, tagged(stamp)), api.OK)
		if stamp <= ahead {
			count(t, "P10.5: Took", q.Took(stamp), 1)
		}
	}
	return q
}

// empties are the queues that have no room.
func empties() map[string]*queue.Queue {
	return map[string]*queue.Queue{"a nil queue": nil, "a zero queue": {}}
}

func is(t *testing.T, what string, got, want api.Errno) {
	t.Helper()
	if got != want {
		t.Errorf("%s says %d, want %d", what, got, want)
	}
}

func count(t *testing.T, what string, got, want int) {
	t.Helper()
	if got != want {
		t.Errorf("%s is %d, want %d", what, got, want)
	}
}

func tells(t *testing.T, q *queue.Queue, number int, want ...api.Item) {
	t.Helper()
	if got := q.Next(number); !sameAll(got, want) {
		t.Errorf("P10.4: Next(%d) = %s, want %s", number, tell(got), tell(want))
	}
}

// stands holds all that a queue tells.
func stands(t *testing.T, q *queue.Queue, last int, want ...api.Item) {
	t.Helper()
	count(t, "P10.6: Len", q.Len(), len(want))
	count(t, "P10.6: Last", q.Last(), last)
	tells(t, q, math.MaxInt, want...)
}

// chance makes the same calls in every run.
type chance struct{ *rand.Rand }

func chanceOf(seed, kind uint64) chance { return chance{rand.New(rand.NewPCG(seed, kind))} }

func pick[T any](c chance, from ...T) T { return from[c.IntN(len(from))] }
