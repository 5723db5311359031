package node_test

import (
	"bytes"
	"slices"
	"testing"

	"herald/api"
	"herald/journal"
	"herald/node"
	"herald/pair"
	"herald/state"
)

// refuses holds that Open says why it does not start, and answers nothing else.
func refuses(t *testing.T, what string, self int, rules api.Rules, over []byte, why api.Errno) {
	t.Helper()
	n, whole, sent, code := node.Open(self, rules, over)
	if n != nil || len(whole) != 0 || len(sent) != 0 || code != why {
		t.Errorf("P14.3: %s: Open(%d, %v) = %v, %d bytes, %d messages, %d, want %d", what, self, rules, n != nil, len(whole), len(sent), code, why)
	}
}

// TestOpenNumbers: P14.3, each rule and the server's own number, at and around all ends.
func TestOpenNumbers(t *testing.T) {
	rules := []struct {
		what            string
		of              func(*api.Rules) *int
		lowest, highest int
	}{
		{"Nodes", func(r *api.Rules) *int { return &r.Nodes }, 1, api.MaxPeers},
		{"Clients", func(r *api.Rules) *int { return &r.Clients }, 1, api.MaxClients},
		{"Queue", func(r *api.Rules) *int { return &r.Queue }, 1, api.MaxQueue},
		{"Ring", func(r *api.Rules) *int { return &r.Ring }, 1, api.MaxRing},
		{"Window", func(r *api.Rules) *int { return &r.Window }, 1, api.MaxWindow},
		{"Lease", func(r *api.Rules) *int { return &r.Lease }, 0, api.MaxLease},
	}
	for _, rule := range rules {
		for _, number := range ends() {
			r := alone
			*rule.of(&r) = number
			if rule.lowest <= number && number <= rule.highest {
				start(t, 1, r, nil).shows(api.View{}, false, 0, 0, 0)
				continue
			}
			refuses(t, rule.what, 1, r, nil, api.ErrArg)
			// Whatever the journal says.
			refuses(t, rule.what, 1, r, disk(t, save(0, 0, "s")), api.ErrArg)
		}
	}
	for nodes := 1; nodes <= api.MaxPeers; nodes++ {
		r := alone
		r.Nodes = nodes
		for _, self := range ends() {
			if 1 <= self && self <= nodes {
				start(t, self, r, nil)
				continue
			}
			refuses(t, "self", self, r, nil, api.ErrArg)
		}
	}
	refuses(t, "no rules", 1, api.Rules{}, nil, api.ErrArg)
}

// TestOpenOfStates: P14.3, a State is one that makes a machine at its Stamp, or empty at 0.
func TestOpenOfStates(t *testing.T) {
	story := []api.Entry{opening(1), asking(1, 1, makes("/a"))}
	of2, of0 := played(story...).Freeze(), state.New().Freeze()
	start(t, 1, alone, disk(t, save(0, 0, ""))).shows(api.View{}, false, 0, 0, 0)
	start(t, 1, alone, disk(t, save(0, 0, of0)), save(0, 0, of0)).shows(api.View{}, false, 0, 0, 0)
	start(t, 1, alone, disk(t, view(1, 2, 1), reset(1, 0, 0, "")), view(1, 2, 1), matched(1), 2, joins(1, 0, 0)).shows(viewOf(1, 2, 1), false, 0, 0, 0)
	s := start(t, 1, alone, disk(t, save(2, 0, of2)), save(2, 0, of2))
	s.shows(api.View{}, false, 2, 2, 2)
	s.hasPlayed()
	if got, want := whole(s.node), whole(played(story...)); got != want {
		t.Errorf("P14.3: the tree is %s, want %s", got, want)
	}
	s.saves(save(2, 0, of2))
	for what, r := range map[string]api.Record{
		"no machine":        save(0, 0, "s"),
		"none at 2":         save(2, 0, ""),
		"a machine at 0":    save(2, 0, of0),
		"one below":         save(3, 0, of2),
		"one above":         save(1, 0, of2),
		"one at 2, stamp 0": save(0, 0, of2),
		"a byte is lacking": save(2, 0, of2[:len(of2)-1]),
		"a byte too many":   save(2, 0, of2+"\x00"),
		"one byte alone":    save(2, 0, of2[:1]),
	} {
		refuses(t, what, 1, alone, disk(t, r), api.ErrThaw)
	}
	refuses(t, "a reset without a machine", 1, alone, disk(t, view(1, 2, 1), reset(1, 2, 1, "s")), api.ErrThaw)
}

// TestOpenOfEntries: P14.3, no entry of the view 0, whether it is committed or not, wherever it stands.
func TestOpenOfEntries(t *testing.T) {
	none, one := entry(1, 0, opening(1)), entry(2, 1, opening(2))
	refuses(t, "an entry of no view", 1, alone, disk(t, none), api.ErrThaw)
	refuses(t, "an entry of no view", 1, alone, disk(t, none, commit(1)), api.ErrThaw)
	refuses(t, "an entry of no view", 1, alone, disk(t, view(1, 1, 0), none, one), api.ErrThaw)
	refuses(t, "the second of no view", 1, alone, disk(t, view(1, 1, 0), none, entry(2, 0, opening(2))), api.ErrThaw)
	// A checkpoint takes it away.
	text := played(opening(1)).Freeze()
	start(t, 1, alone, disk(t, none, commit(1), save(1, 0, text)), save(1, 0, text)).shows(api.View{}, false, 1, 1, 1)
}

// TestOpenOfCores: P14.3, what pair.New refuses; and which of several errors is told.
func TestOpenOfCores(t *testing.T) {
	text := played(opening(1)).Freeze()
	refuses(t, "an entry of a view that it never had", 1, alone, disk(t, entry(1, 1, opening(1))), api.ErrArg)
	refuses(t, "an entry of a later view", 1, alone, disk(t, view(1, 1, 0), entry(1, 2, opening(1))), api.ErrArg)
	refuses(t, "a state of a later view", 1, alone, disk(t, save(1, 2, text), view(1, 1, 0)), api.ErrArg)
	var long []api.Record
	long = append(long, view(1, 2, 1))
	for stamp := 1; stamp <= 5; stamp++ {
		long = append(long, entry(stamp, 1, opening(stamp)))
	}
	refuses(t, "five open entries, room for four", 1, three, disk(t, long...), api.ErrArg)
	long = append(long, commit(1))
	start(t, 1, three, disk(t, long...), append(anyOf(long), 2, joins(1, 5, 1))...).shows(viewOf(1, 2, 1), false, 0, 1, 5)
	refuses(t, "neither", 1, alone, disk(t, save(1, 2, "s"), view(1, 1, 0)), api.ErrThaw)
	refuses(t, "neither", 1, alone, disk(t, entry(1, 0, opening(1)), entry(2, 1, opening(1))), api.ErrThaw)
	refuses(t, "no rules, no state", 1, api.Rules{}, disk(t, save(0, 0, "s")), api.ErrArg)
	for _, self := range []int{-1, 0, 2} {
		refuses(t, "no number, no state", self, alone, disk(t, save(0, 0, "s")), api.ErrArg)
	}
}

func anyOf(records []api.Record) []any {
	var list []any
	for _, r := range records {
		list = append(list, r)
	}
	return list
}

// stories are journals with records of every kind, for the server 1.
func stories(t *testing.T) [][]byte {
	t.Helper()
	two := placed(0, 1, opening(1), asking(1, 1, makes("/a")))
	of2 := played(two...).Freeze()
	of3 := played(append(two, asking(1, 2, makes("/b")))...).Freeze()
	of7 := machineAt(7).Freeze()
	return [][]byte{
		disk(t, view(1, 1, 0), entry(1, 1, opening(1)), commit(1), entry(2, 1, asking(1, 1, makes("/a"), sets("/a", "y"))), commit(2), entry(3, 1, closing(1)), commit(3), entry(4, 1, opening(17)), commit(4)),
		disk(t, save(2, 1, of2), view(3, 2, 1), matched(3), entry(3, 1, asking(1, 2, makes("/b"))), entry(4, 2, asking(1, 3, makes("/c"))), commit(3), view(4, 1, 2), entry(5, 4, opening(2)), save(3, 1, of3), commit(5), view(5, 3, 1), reset(5, 7, 4, of7), entry(8, 5, opening(1)), entry(9, 5, asking(1, 1, makes("/d"))), commit(8), view(6, 1, 3)),
		// What is wrong in a server's eyes: a reset to no machine, and behind it one to another; an entry of no view, and its end.
		disk(t, entry(1, 0, opening(1)), commit(1), view(2, 2, 1), save(1, 0, played(opening(1)).Freeze()), reset(2, 5, 1, "none"), reset(2, 7, 1, of7), entry(8, 1, opening(3)), entry(9, 2, opening(4)), entry(10, 2, opening(5)), entry(11, 2, opening(6)), entry(12, 2, opening(7)), commit(12), view(3, 1, 0), view(4, 2, 3)),
	}
}

// opensAs holds what Open does over any bytes, by what the journal says of them.
func opensAs(t *testing.T, what string, rules api.Rules, over []byte) {
	t.Helper()
	said, _, _ := journal.Recover(over)
	m, code := state.New(), api.OK
	if said.Stamp != 0 || said.State != "" {
		m, code = state.Thaw(said.State)
	}
	isOfNoView := slices.ContainsFunc(said.Entries, func(e api.Entry) bool { return e.View == 0 })
	if code != api.OK || m.Last() != said.Stamp || isOfNoView {
		refuses(t, what, 1, rules, over, api.ErrThaw)
		return
	}
	core, act, code := pair.New(1, rules.Ring, said)
	if code != api.OK {
		refuses(t, what, 1, rules, over, api.ErrArg)
		return
	}
	short, number, _ := journal.Compact(said)
	s := &server{t: t, self: 1}
	var whole []byte
	var sent []api.Message
	s.node, whole, sent, code = node.Open(1, rules, over)
	if code != api.OK || !bytes.HasPrefix(whole, short) {
		t.Fatalf("P14.3: %s: Open says %d, and the journal is %s", what, code, tellBytes(0, whole))
	}
	s.number = number
	things := anyOf(act.Records)
	for _, o := range act.Notes {
		things = append(things, o.To, o.Note)
	}
	s.does("P14.3: "+what+": Open", whole[len(short):], sent, things...)
	for _, e := range said.Entries[:core.Commit()-said.Stamp] {
		m.Apply(e)
	}
	s.hasPlayed(said.Entries[:core.Commit()-said.Stamp]...)
	last, _ := core.Log().Last()
	s.shows(core.View(), core.Active(), max(said.Stamp, core.Commit()-rules.Ring), core.Commit(), last)
	if got := s.frozen(); got != m.Freeze() {
		t.Errorf("P14.10: %s: the machine is %q, want %q", what, got, m.Freeze())
	}
}

// frozen is the machine of a server, as Save tells it.
func (s *server) frozen() string {
	s.t.Helper()
	written, sent := s.node.Save()
	records := recordsOf(s.number, written)
	if len(records) != 1 || len(sent) != 0 {
		s.t.Fatalf("P14.7: Save writes %s and sends %s", tell(records), tellMessages(sent))
	}
	s.disk, s.number = append(s.disk, written...), s.number+1
	return records[0].State
}

// TestOpenOverBytes: P14.3 and P14.10, journals that end at any byte, or of which any byte is spoilt.
func TestOpenOverBytes(t *testing.T) {
	for i, over := range stories(t) {
		for _, ring := range []int{1, 2, 4, 64} {
			rules := three
			rules.Ring = ring
			for end := range len(over) + 1 {
				opensAs(t, tell([]int{i, end}), rules, over[:end])
			}
		}
		for at := range over {
			spoilt := slices.Clone(over)
			spoilt[at] ^= 1 << (at % 8)
			opensAs(t, tell([]int{i, at}), three, spoilt)
		}
	}
	c := chanceOf(1, 3)
	for range 200 {
		garbage := make([]byte, c.IntN(300))
		for i := range garbage {
			garbage[i] = byte(c.IntN(256))
		}
		opensAs(t, "garbage", three, garbage)
		opensAs(t, "garbage behind a journal", three, append(stories(t)[0], garbage...))
	}
}
