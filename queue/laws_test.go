package queue_test

import (
	"slices"
	"testing"

	"herald/api"
	"herald/queue"
)

// lawful holds what P10.10 says of a queue at any time.
func lawful(t *testing.T, q *queue.Queue, room int) {
	t.Helper()
	items := q.Next(api.MaxQueue + 1)
	if len(items) > room || q.Len() != len(items) {
		t.Errorf("P10.10: %d items, Len %d, in a room of %d", len(items), q.Len(), room)
	}
	for i, item := range items {
		if item.After >= item.Stamp || item.Stamp > q.Last() {
			t.Errorf("P10.10: the item %d is behind %d, the last is %d", item.Stamp, item.After, q.Last())
		}
		if i > 0 && (item.Stamp <= items[i-1].Stamp || item.After < items[i-1].Stamp) {
			t.Errorf("P10.10: behind %d comes %d, behind %d", items[i-1].Stamp, item.Stamp, item.After)
		}
	}
}

// has tells whether an item with that stamp is among some.
func has(items []api.Item, stamp int) bool {
	return slices.ContainsFunc(items, func(item api.Item) bool { return item.Stamp == stamp })
}

// TestLaws: P10.10, along scripts of calls; and what was told ahead of a Collapse is not told behind it.
func TestLaws(t *testing.T) {
	collapses := 0
	for seed := range uint64(200) {
		c := chanceOf(seed, 10)
		room := pick(c, 1, 2, 3, 7, 31, 32)
		q, g := made(t, room, 3), &again{room: room, last: 3}
		var told []api.Item
		gone := 0 // so many of these were told ahead of a Collapse
		for range 150 {
			told = append(told, q.Next(1+c.IntN(room))...)
			ahead := q.Next(room)
			x := c.call(g)
			x.again(g)
			if a := x.on(q); x.kind == "collapse" && a.code == api.OK {
				collapses++
				gone = len(told)
				marker := q.Next(1)[0]
				begin := slices.Concat(ahead, []api.Item{{After: marker.After}})[0].After
				if marker.After != begin {
					t.Errorf("P10.3: the marker is behind %d, what went began behind %d", marker.After, begin)
				}
			}
			for _, item := range q.Next(room) {
				if has(told[:gone], item.Stamp) {
					t.Errorf("P10.10: %d is told again behind a Collapse", item.Stamp)
				}
			}
			if lawful(t, q, room); t.Failed() {
				t.Fatalf("P10.10: seed %d: behind %s %d", seed, x.kind, x.number)
			}
		}
	}
	if collapses < 1000 {
		t.Errorf("only %d collapses", collapses)
	}
}

// reader takes items by what it has, as P10.11 says.
type reader struct {
	begin, last int
	taken       []api.Item
}

func (r *reader) offer(item api.Item) {
	if item.After <= r.last && item.Stamp > r.last {
		r.last = item.Stamp
		r.taken = append(r.taken, item)
	}
}

// misses has the events, up to the last stamp that it took, that it neither took nor took a marker for.
func (r *reader) misses(events []int) []int {
	return slices.DeleteFunc(slices.Clone(events), func(stamp int) bool {
		return stamp > r.last || slices.ContainsFunc(r.taken, func(item api.Item) bool {
			return item.Stamp == stamp || item.Marker && item.After < stamp && stamp < item.Stamp
		})
	})
}

// holds holds P10.11 of what a reader took.
func (r *reader) holds(t *testing.T, events []int) {
	t.Helper()
	last := r.begin
	for _, item := range r.taken {
		if item.Stamp <= last {
			t.Errorf("P10.11: %d is taken behind %d", item.Stamp, last)
		}
		// Each is taken as it was put, nothing else by that stamp.
		want := marker(item.Stamp, item.After)
		if slices.Contains(events, item.Stamp) {
			want = event(item.Stamp, item.After)
		}
		if !same(item, want) {
			t.Errorf("P10.11: %s is taken, want %s", tell(item), tell(want))
		}
		last = item.Stamp
	}
	if missed := r.misses(events); len(missed) > 0 {
		t.Errorf("P10.11: the events %v are left out up to %d", missed, r.last)
	}
}

// reading is a queue with several readers, each of which is offered what was told in another order.
type reading struct {
	queue   *queue.Queue
	told    []api.Item
	events  []int
	readers []*reader
}

func readingOf(q *queue.Queue, readers int) *reading {
	r := &reading{queue: q}
	for range readers {
		r.readers = append(r.readers, &reader{begin: q.Last(), last: q.Last()})
	}
	return r
}

// turn makes one call of the queue, and offers some of what was ever told to a reader.
func (r *reading) turn(c chance, room int) {
	q := r.queue
	stamp := q.Last() + 1 + c.IntN(2)
	switch c.IntN(6) {
	case 0, 1, 2:
		code := q.Put(stamp, tagged(stamp))
		if code == api.OK {
			r.events = append(r.events, stamp)
		} else if c.IntN(2) == 0 {
			q.Collapse(stamp, parts(stamp))
		}
	case 3:
		if c.IntN(5) == 0 {
			q.Collapse(stamp, parts(stamp))
		}
	case 4:
		// What a reader has it says, at times late.
		q.Took(pick(c, r.readers[0].last, r.readers[0].last-c.IntN(4)))
	}
	r.told = append(r.told, q.Next(1+c.IntN(room))...)
	for _, one := range r.readers {
		for range c.IntN(4) {
			if len(r.told) > 0 {
				one.offer(pick(c, r.told...))
				one.offer(r.told[len(r.told)-1-c.IntN(min(len(r.told), 6))])
			}
		}
	}
}

// TestReaders: P10.11, readers that take what was ever told in any order and again take stamps that rise, and leave no event out that no marker stands for; the one that says what it took comes to have all.
func TestReaders(t *testing.T) {
	events, markers := 0, 0
	for seed := range uint64(300) {
		c := chanceOf(seed, 11)
		room, begin := pick(c, 1, 2, 3, 5, 32), pick(c, 0, 8, most-500)
		r := readingOf(made(t, room, begin), 3)
		for range 120 {
			r.turn(c, room)
		}
		for r.queue.Len() > 0 {
			items := r.queue.Next(1)
			r.readers[0].offer(items[0])
			if r.queue.Took(r.readers[0].last) == 0 {
				t.Fatalf("P10.11: seed %d: a reader at %d can't take %s", seed, r.readers[0].last, tell(items))
			}
		}
		for _, one := range r.readers {
			one.holds(t, r.events)
			for _, item := range one.taken {
				if item.Marker {
					markers++
				} else {
					events++
				}
			}
		}
		count(t, "P10.11: what the first reader has in the end", r.readers[0].last, r.queue.Last())
		if t.Failed() {
			t.Fatalf("P10.11: seed %d, room %d", seed, room)
		}
	}
	if events < 1000 || markers < 1000 {
		t.Errorf("only %d events and %d markers were taken", events, markers)
	}
}

// TestCarelessTook: P10.11, also where items are taken off that no reader has, none of them leaves an event out.
func TestCarelessTook(t *testing.T) {
	stuck := 0
	for seed := range uint64(200) {
		c := chanceOf(seed, 12)
		room := pick(c, 1, 2, 3, 5)
		r := readingOf(made(t, room, 0), 2)
		for i := range 80 {
			r.turn(c, room)
			if i%20 == 19 {
				r.queue.Took(r.queue.Last() - c.IntN(3))
			}
		}
		for _, one := range r.readers {
			if one.holds(t, r.events); one.last < r.queue.Last() {
				stuck++
			}
		}
		if t.Failed() {
			t.Fatalf("P10.11: seed %d, room %d", seed, room)
		}
	}
	if stuck < 20 {
		t.Errorf("only %d readers lost the thread", stuck)
	}
}
