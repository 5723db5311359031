package state_test

import (
	"fmt"
	"slices"
	"strings"
	"testing"

	"herald/api"
	"herald/state"
)

// small are entries that follow one another in many ways; their stamps are given as they are played.
func small() []api.Entry {
	return []api.Entry{
		open(0, 1), open(0, 17), open(0, 33), open(0, 2),
		shut(0, 1), shut(0, 17), expire(0, 1), expire(0, 2),
		ask(0, 1, 1, makes("/a", "x", api.FlagBrief)), ask(0, 1, 2, makes("/n", "", api.FlagCounted), lists("/")), ask(0, 1, 1),
		ask(0, 17, 1, drops("/a")), ask(0, 17, 3, makes("/a", "y", api.FlagBrief)), ask(0, 2, 2, sets("/", "z"), gets("/a")),
	}
}

// TestEverySmallScript: P8.1 to P8.9, all scripts of up to seven of these entries. Each is played on a machine that was frozen and thawed ahead of it, and that from a text which the second reckoning wrote.
func TestEverySmallScript(t *testing.T) {
	const depth = 7
	seen := map[string]int{}
	var grow func(f frozen)
	grow = func(f frozen) {
		text := f.text()
		// What a text says is all that a machine knows: whatever follows on the same one was held already.
		if seen[text]++; seen[text] > 1 || f.last == depth || t.Failed() {
			return
		}
		for _, e := range small() {
			e.Stamp = f.last + 1
			grow(f.follows(t, "a small script", thawed(t, text), e))
		}
	}
	grow(frozen{nodes: rootAlone()})
	if len(seen) < 1000 {
		t.Errorf("only %d machines came of these scripts", len(seen))
	}
}

func (c chance) place() string {
	at := ""
	for range 1 + c.IntN(2) {
		at += pick(c, "/a", "/b", "/n", "/n00000", "/n00001", "/b-")
	}
	return pick(c, at, at, at, at, "/", "/a", "/b", "", "a/")
}

func (c chance) op() api.Op {
	data := strings.Repeat(pick(c, "x", "y"), pick(c, 0, 1, 2, 64, 64, 65))
	return api.Op{Kind: pick(c, 1, 1, 1, 1, 2, 2, 3, 4, 5, 6, 7, 7, 0), Place: c.place(), Data: data, Version: pick(c, -1, -1, -1, 0, 1), Flags: pick(c, 0, 0, 1, 1, 2, 3, 3)}
}

func (c chance) ops() []api.Op {
	ops := make([]api.Op, pick(c, 1, 1, 2, 2, 3, 4, 0))
	for i := range ops {
		ops[i] = c.op()
	}
	return ops
}

// session is mostly one that is open, at times one near to it.
func (c chance) session(f frozen) int {
	newest := f.slots[c.IntN(4)].newest
	return min(most, pick(c, newest, newest, newest, newest+16, 1+c.IntN(64), most-c.IntN(32), max(1, newest-16)))
}

// entry is one that may be, at the next stamp.
func (c chance) entry(f frozen) api.Entry {
	e := api.Entry{Stamp: f.last + 1, View: pick(c, 1, 2, most), Kind: pick(c, 1, 1, 1, 1, 1, 1, 2, 2, 3, 4), Session: c.session(f)}
	if e.Session == 0 || c.IntN(3) > 0 && f.slots[e.Session%16].open == 0 {
		e.Kind, e.Session = api.EntryOpen, max(1, e.Session)
	}
	if e.Kind == api.EntryRequest {
		last := f.slots[e.Session%16].request
		e.Request = min(most, max(1, pick(c, last+1, last+1, last+1, last+2, last, last-1)))
		e.Ops = c.ops()
	}
	return e
}

// wrong is an entry that is refused, and why.
func (c chance) wrong(f frozen) (api.Entry, api.Errno) {
	e := c.entry(f)
	switch c.IntN(6) {
	case 0:
		e.Ops = slices.Repeat([]api.Op{c.op()}, 5)
		return e, api.ErrLong
	case 1:
		e.View = pick(c, 0, -1, most+1)
	case 2:
		e.Session = pick(c, 0, -16, most+1)
	case 3:
		e.Kind = pick(c, 0, 5, -1)
	case 4:
		e.Request = pick(c, -1, most+1)
	default:
		e.Stamp = pick(c, f.last, f.last+2, 0, -1, most+1)
		return e, api.ErrStamp
	}
	return e, api.ErrArg
}

// TestLongScripts: P8.1 to P8.9, scripts by chance, held against the second reckoning at every step. One machine plays all, one is frozen and thawed now and then, one ahead of every entry; refused entries stand in between.
func TestLongScripts(t *testing.T) {
	ends := map[string]int{}
	for seed := range uint64(250) {
		c := chanceOf(seed, 8)
		f := frozen{nodes: rootAlone()}
		if seed%5 == 4 {
			f = sample()
			f.last = pick(c, 90, most-20)
		}
		all := []*state.Machine{thawed(t, f.text()), thawed(t, f.text()), thawed(t, f.text())}
		for f.last < most && c.IntN(150) > 0 {
			if c.IntN(4) == 0 {
				e, code := c.wrong(f)
				refuses(t, "P8.1", all[c.IntN(3)], e, code)
			}
			e := c.entry(f)
			next, reply, _ := f.next(e)
			ends[fmt.Sprint(e.Kind, reply.Code, reply.Stamp == e.Stamp)]++
			for _, m := range all {
				f.follows(t, fmt.Sprintf("seed %d", seed), m, e)
			}
			f = next
			if c.IntN(10) == 0 {
				all[1] = thawed(t, all[1].Freeze())
			}
			all[2] = thawed(t, all[2].Freeze())
			if t.Failed() {
				t.Fatalf("seed %d", seed)
			}
		}
	}
	for _, want := range []string{"1 0 true", "1 0 false", "1 41 true", "1 81 true", "1 82 true", "2 0 true", "2 60 true", "3 0 true", "3 81 true", "4 0 true", "4 81 true"} {
		if ends[want] < 20 {
			t.Errorf("of kind, code and whether the stamp is its own %q there were %d: %v", want, ends[want], ends)
		}
	}
}

// TestAtMostOnce: P8.5, whatever is asked again, in whatever order, each request counts at most once, and none that comes behind a greater one.
func TestAtMostOnce(t *testing.T) {
	for seed := range uint64(200) {
		c := chanceOf(seed, 85)
		m := played(t, open(1, 1), open(2, 2))
		var greatest, count [3]int
		for stamp := 3; stamp < 60; stamp++ {
			s, number := 1+c.IntN(2), 1+c.IntN(30)
			if number > greatest[s] {
				greatest[s] = number
				count[s]++
			}
			_, changes, _ := m.Apply(ask(stamp, s, number, makes(fmt.Sprintf("/s%d-", s), "", api.FlagCounted)))
			if len(changes) > 0 && number != greatest[s] {
				t.Fatalf("P8.5: seed %d: the request %d of %d is played behind %d", seed, number, s, greatest[s])
			}
			if c.IntN(8) == 0 {
				m = thawed(t, m.Freeze())
			}
		}
		if part, _ := m.Part("/", api.WatchKids); len(part.Nodes) != 1+count[1]+count[2] {
			t.Fatalf("P8.5: seed %d: %d nodes, want %d and %d", seed, len(part.Nodes)-1, count[1], count[2])
		}
	}
}

// TestAskingChangesNothing: P8.6 and P8.9, a machine that is asked all the time freezes as one that is not.
func TestAskingChangesNothing(t *testing.T) {
	m, quiet := &state.Machine{}, state.New()
	for _, e := range rich() {
		for range 2 {
			m.Sessions()
			m.Freeze()
			for n := range 50 {
				m.Kept(n)
				m.Newest(n)
			}
			for kind := range 5 {
				m.Part("/a", kind)
				m.Part("a", kind)
			}
		}
		a, b, _ := m.Apply(e)
		x, y, _ := quiet.Apply(e)
		if !sameReply(a, x) || !slices.Equal(b, y) || m.Freeze() != quiet.Freeze() {
			t.Errorf("P8.9: behind %s: %x, %x", tell(e), m.Freeze(), quiet.Freeze())
		}
	}
}

// spoil turns, puts in or takes out some bytes.
func (c chance) spoil(text string) string {
	data := []byte(text)
	for range 1 + c.IntN(2) {
		at := c.IntN(len(data) + 1)
		switch {
		case c.IntN(3) == 0 || at == len(data):
			data = slices.Insert(data, at, pick(c, 0, 1, 2, 5, 16, 127, 128, 255, byte(c.IntN(256))))
		case c.IntN(2) == 0:
			data = slices.Delete(data, at, at+1)
		default:
			data[at] = pick(c, 0, 1, 2, 5, 16, 127, 128, 129, 255, byte(c.IntN(256)))
		}
	}
	return string(data)
}

// TestTextsByChance: P8.8, texts that are a little off, and rubbish.
func TestTextsByChance(t *testing.T) {
	texts := []string{sample().text(), state.New().Freeze(), played(t, rich()...).Freeze()}
	for n := range len(rich()) {
		texts = append(texts, played(t, rich()[:n]...).Freeze())
	}
	c := chanceOf(1, 88)
	may := 0
	for range 30000 {
		if thaws(t, "a little off", c.spoil(pick(c, texts...))) {
			may++
		}
		rubbish := make([]byte, c.IntN(120))
		for i := range rubbish {
			rubbish[i] = pick(c, 0, 0, 0, 1, 2, '/', 'a', 128, byte(c.IntN(256)))
		}
		thaws(t, "rubbish", string(rubbish))
		if t.Failed() {
			return
		}
	}
	if may < 1000 || may > 29000 {
		t.Errorf("of 30000 texts %d are machines'", may)
	}
}

// TestBentAndPlayed: P8.8 and P8.9, machines that no script from the beginning makes, but that may be, play as the second reckoning does.
func TestBentAndPlayed(t *testing.T) {
	count := 0
	for seed := range uint64(4000) {
		c := chanceOf(seed, 89)
		f := sample()
		for range 1 + c.IntN(3) {
			numbers := numbersOf(&f)
			*numbers[c.IntN(len(numbers))] = pick(c, 0, 1, 2, 3, 16, 32, 48, 90, most, c.IntN(100))
		}
		if !f.mayBe() {
			continue
		}
		count++
		// What a text does not tell, such as a reply without its request, is not there.
		f, _ = scanned(f.text())
		m := thawed(t, f.text())
		for range 6 {
			if f.last < most {
				f = f.follows(t, fmt.Sprintf("seed %d", seed), m, c.entry(f))
			}
		}
		if t.Failed() {
			return
		}
	}
	if count < 500 {
		t.Errorf("only %d of these may be", count)
	}
}
