package queue_test

import (
	"math"
	"slices"
	"testing"

	"herald/api"
	"herald/queue"
)

// again is a queue by other means: one plain list of its items.
type again struct {
	room  int
	last  int
	items []api.Item
}

// reason is an error with whether it applies.
type reason struct {
	applies bool
	code    api.Errno
}

func first(reasons ...reason) api.Errno {
	for _, r := range reasons {
		if r.applies {
			return r.code
		}
	}
	return api.OK
}

func (g *again) put(stamp int, changes []api.Tagged) api.Errno {
	bare := len(changes) == 0
	for _, c := range changes {
		bare = bare || len(c.Tags) == 0
	}
	code := first(
		reason{stamp > 2147483647, api.ErrNumber},
		reason{stamp <= g.last, api.ErrQueue},
		reason{bare, api.ErrQueue},
		reason{len(g.items) >= g.room, api.ErrFull})
	if code == api.OK {
		g.items = append(slices.Clone(g.items), api.Item{Stamp: stamp, After: g.last, Changes: changes})
		g.last = stamp
	}
	return code
}

func (g *again) collapse(stamp int, parts []api.Part) api.Errno {
	code := first(
		reason{stamp > 2147483647, api.ErrNumber},
		reason{stamp <= g.last, api.ErrQueue},
		reason{len(parts) == 0, api.ErrQueue},
		reason{g.room == 0, api.ErrFull})
	if code == api.OK {
		after := slices.Concat(g.items, []api.Item{{After: g.last}})[0].After
		g.items = []api.Item{{Stamp: stamp, After: after, Marker: true, Parts: parts}}
		g.last = stamp
	}
	return code
}

func (g *again) next(number int) []api.Item {
	var list []api.Item
	for _, item := range g.items {
		if len(list) < number {
			list = append(list, item)
		}
	}
	return list
}

func (g *again) took(stamp int) int {
	was := len(g.items)
	g.items = slices.DeleteFunc(slices.Clone(g.items), func(item api.Item) bool { return item.Stamp <= stamp })
	return was - len(g.items)
}

// isLike holds all that a queue tells.
func (g *again) isLike(t *testing.T, q *queue.Queue) {
	t.Helper()
	stands(t, q, g.last, g.items...)
	for _, number := range []int{math.MinInt, -1, 0, 1, 2, g.room - 1, g.room, g.room + 1} {
		tells(t, q, number, g.next(number)...)
	}
}

// call is one call of a queue, and what it answered.
type call struct {
	kind    string
	number  int // the stamp, or at most how many
	changes []api.Tagged
	parts   []api.Part
}

type answer struct {
	code   api.Errno
	number int
	items  []api.Item
}

func (a answer) is(b answer) bool {
	return a.code == b.code && a.number == b.number && sameAll(a.items, b.items)
}

func (c call) on(q *queue.Queue) answer {
	switch c.kind {
	case "put":
		return answer{code: q.Put(c.number, c.changes)}
	case "collapse":
		return answer{code: q.Collapse(c.number, c.parts)}
	case "next":
		return answer{items: q.Next(c.number)}
	case "took":
		return answer{number: q.Took(c.number)}
	case "len":
		return answer{number: q.Len()}
	}
	return answer{number: q.Last()}
}

func (c call) again(g *again) answer {
	switch c.kind {
	case "put":
		return answer{code: g.put(c.number, c.changes)}
	case "collapse":
		return answer{code: g.collapse(c.number, c.parts)}
	case "next":
		return answer{items: g.next(c.number)}
	case "took":
		return answer{number: g.took(c.number)}
	case "len":
		return answer{number: len(g.items)}
	}
	return answer{number: g.last}
}

func putting(stamp int) call    { return call{kind: "put", number: stamp, changes: tagged(stamp)} }
func collapsing(stamp int) call { return call{kind: "collapse", number: stamp, parts: parts(stamp)} }
func nexting(number int) call   { return call{kind: "next", number: number} }
func tooking(stamp int) call    { return call{kind: "took", number: stamp} }

// call is one that is often taken, near an edge, and at times far from what may be.
func (c chance) call(g *again) call {
	begin := slices.Concat(g.items, []api.Item{{After: g.last, Stamp: g.last}})[0]
	switch c.IntN(12) {
	default:
		x := putting(max(1, g.last+1+c.IntN(3)))
		switch c.IntN(12) {
		case 0:
			x.number = pick(c, g.last, g.last-1, begin.After, begin.Stamp, pick(c, ends()...))
		case 1:
			x.changes = pick(c, untagged()...)
		}
		return x
	case 0, 1:
		x := collapsing(max(1, g.last+1+c.IntN(3)))
		switch c.IntN(6) {
		case 0:
			x.number = pick(c, g.last, g.last-1, begin.After, begin.Stamp, pick(c, ends()...))
		case 1:
			x.parts = pick(c, nil, []api.Part{})
		}
		return x
	case 2, 3, 4:
		stamp := begin.Stamp + c.IntN(1+max(0, g.last-begin.Stamp))
		return tooking(pick(c, stamp, begin.Stamp, begin.Stamp, begin.Stamp+1, begin.After, g.last, g.last-1, g.last+1, pick(c, ends()...)))
	case 5:
		return nexting(pick(c, c.IntN(g.room+2), 1, g.room, pick(c, ends()...)))
	}
}

// TestScripts: P10.1 to P10.7, along scripts of calls, of every room, from beginnings at both ends of the numbers.
func TestScripts(t *testing.T) {
	seen := map[string]int{}
	for seed := range uint64(320) {
		c := chanceOf(seed, 10)
		room, begin := 1+int(seed)%api.MaxQueue, pick(c, 0, 1, 77, most-20, most-100)
		if seed%3 == 0 {
			room = 1 + int(seed)%4
		}
		q, g := made(t, room, begin), &again{room: room, last: begin}
		for range 120 {
			x := c.call(g)
			got, want := x.on(q), x.again(g)
			if !got.is(want) {
				t.Fatalf("P10.2 to P10.6: seed %d: %s %d = %s, want %s", seed, x.kind, x.number, tell(got), tell(want))
			}
			seen[x.kind+" "+tell(int(want.code))]++
			g.isLike(t, q)
			if t.Failed() {
				t.Fatalf("P10.2 to P10.6: seed %d: behind %s %d", seed, x.kind, x.number)
			}
		}
	}
	for _, kind := range []string{"put 0", "put 3", "put 100", "put 46", "collapse 0", "collapse 3", "collapse 100", "took 0", "next 0"} {
		if seen[kind] < 100 {
			t.Errorf("the scripts have %q only %d times", kind, seen[kind])
		}
	}
}

// letters is how many calls small scripts are made of.
const letters = 7

// letter is one of these, by what the queue is then.
func letter(g *again, number int) call {
	begin := slices.Concat(g.items, []api.Item{{Stamp: g.last}})[0].Stamp
	switch number {
	case 0, 1:
		return putting(g.last + 1 + number)
	case 2:
		return putting(max(0, g.last))
	case 3:
		return collapsing(g.last + 1)
	case 4:
		return tooking(begin)
	case 5:
		return tooking(g.last - 1)
	}
	return tooking(g.last + 1)
}

// TestAllSmallScripts: P10.2 to P10.8, all scripts of up to six calls out of seven, in queues of no, one, two and three places.
func TestAllSmallScripts(t *testing.T) {
	for _, begin := range []func() (*queue.Queue, *again){
		func() (*queue.Queue, *again) { return nil, &again{} },
		func() (*queue.Queue, *again) { return &queue.Queue{}, &again{} },
		func() (*queue.Queue, *again) { return made(t, 1, most-6), &again{room: 1, last: most - 6} },
		func() (*queue.Queue, *again) { return made(t, 2, 5), &again{room: 2, last: 5} },
		func() (*queue.Queue, *again) { return made(t, 3, 0), &again{room: 3} },
	} {
		size := 6
		if _, g := begin(); g.room == 0 {
			size = 3
		}
		scripts := 1
		for length := 1; length <= size; length++ {
			scripts *= letters
			for number := range scripts {
				q, g := begin()
				for range length {
					x := letter(g, number%letters)
					number /= letters
					if got, want := x.on(q), x.again(g); !got.is(want) {
						t.Fatalf("P10.2 to P10.5: %s %d = %s, want %s", x.kind, x.number, tell(got), tell(want))
					}
				}
				if length < size {
					g.isLike(t, q)
				}
				if t.Failed() || q.Len() != len(g.items) || q.Last() != g.last || !sameAll(q.Next(9), g.items) {
					t.Fatalf("P10.2 to P10.8: a queue of %d items is not what the script makes", g.room)
				}
			}
		}
	}
}

// TestAlike: W2, two queues that are given the same calls answer the same, also if one was asked more in between.
func TestAlike(t *testing.T) {
	for seed := range uint64(40) {
		c := chanceOf(seed, 2)
		g := &again{room: 1 + int(seed)%5}
		one, other := made(t, g.room, 0), made(t, g.room, 0)
		for range 100 {
			x := c.call(g)
			x.again(g)
			other.Next(c.IntN(9))
			other.Len()
			other.Last()
			other.Took(-c.IntN(3))
			if a, b := x.on(one), x.on(other); !a.is(b) {
				t.Fatalf("W2: seed %d: %s %d = %s and %s", seed, x.kind, x.number, tell(a), tell(b))
			}
		}
	}
}
