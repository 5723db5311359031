package line_test

import (
	"slices"
	"testing"

	"herald/api"
	"herald/line"
)

// origin is what the number of a message in flight leads back to, by the answers of the line alone.
type origin struct {
	sent     api.Message
	spoiltAt int // -1: nowhere
	turn     int
}

// watcher knows, of a line that is played, what was sent under each number, and what was taken.
type watcher struct {
	origins map[int]origin
	taken   map[int]int // how often each number was taken
	flying  int
}

// saw goes on by a call and what the line answered to it.
func (w *watcher) saw(t *testing.T, x call, a answer) {
	t.Helper()
	switch {
	case x.kind == "send":
		for i, number := range a.numbers {
			if number != -1 {
				w.begins(t, number, origin{sent: x.messages[i], spoiltAt: -1})
			}
		}
	case a.code != api.OK:
	case x.kind == "double":
		w.begins(t, a.number, w.origins[x.number])
	case x.kind == "spoil":
		o := w.origins[x.number]
		if o.spoiltAt != -1 {
			t.Errorf("P16.4: the message %d is spoilt twice", x.number)
		}
		o.spoiltAt, o.turn = x.at%len(o.sent.Bytes), x.turn
		w.origins[x.number] = o
	case x.kind == "take":
		w.taken[x.number]++
		w.flying--
		w.isTrue(t, x.number, a.message)
	}
}

// begins holds that a number is the next one.
func (w *watcher) begins(t *testing.T, number int, o origin) {
	t.Helper()
	if number != len(w.origins)+1 {
		t.Errorf("P16.1: the number %d follows on %d", number, len(w.origins))
	}
	w.origins[number] = o
	w.flying++
}

// isTrue: P16.8, what was taken is what was sent but for one byte at most, where it was spoilt, and nobody took it before.
func (w *watcher) isTrue(t *testing.T, number int, got api.Message) {
	t.Helper()
	o, isKnown := w.origins[number]
	if !isKnown || w.taken[number] != 1 {
		t.Fatalf("P16.8: the number %d was taken %d times", number, w.taken[number])
	}
	if got.From != o.sent.From || got.To != o.sent.To || len(got.Bytes) != len(o.sent.Bytes) {
		t.Fatalf("P16.8: of %s became %s", tell(o.sent), tell(got))
	}
	for i := range len(got.Bytes) {
		turn := int(got.Bytes[i]) ^ int(o.sent.Bytes[i])
		if turn != 0 && i != o.spoiltAt || i == o.spoiltAt && turn != o.turn {
			t.Errorf("P16.8: the byte %d of %s became that of %s, spoilt at %d", i, tell(o.sent), tell(got), o.spoiltAt)
		}
	}
}

// TestPlays: P16.8, over long plays of all calls in any order at most MaxFlight messages are in flight, each number is taken at most once, and what is taken was sent.
func TestPlays(t *testing.T) {
	full, spoilt := 0, 0
	for seed := range uint64(150) {
		c := chanceOf(seed, 8)
		l, g := line.New(), &again{} // g only chooses the calls
		w := &watcher{origins: map[int]origin{}, taken: map[int]int{}}
		for range 400 {
			x := c.call(g, pick(c, 2, 6, 256))
			x.again(g)
			w.saw(t, x, x.on(l))
			in := l.Numbers()
			if len(in) > api.MaxFlight || len(in) != w.flying || !slices.IsSorted(in) {
				t.Errorf("P16.8: %d messages are in flight, but %d were put there and not taken", len(in), w.flying)
			}
			if len(in) == api.MaxFlight {
				full++
			}
			if t.Failed() {
				t.Fatalf("P16.8: seed %d: behind %s", seed, x)
			}
		}
		for _, number := range l.Numbers() {
			x := take(number)
			w.saw(t, x, x.on(l))
			if w.origins[number].spoiltAt != -1 {
				spoilt++
			}
		}
		for number := range w.origins {
			if taking(t, l, number, api.Message{}, api.ErrFlight); w.taken[number] != 1 {
				t.Fatalf("P16.8: seed %d: the number %d was taken %d times", seed, number, w.taken[number])
			}
		}
	}
	if full < 1000 || spoilt < 1000 {
		t.Errorf("the plays have only %d times a full line, and %d spoilt messages at their ends", full, spoilt)
	}
}
