package state_test

import (
	"fmt"
	"math"
	"slices"
	"strings"
	"testing"

	"herald/api"
	"herald/state"
)

// TestExamples: the chapter's examples, line by line.
func TestExamples(t *testing.T) {
	m := state.New()
	a := api.Result{Place: "/a", Made: 2, Changed: 2}
	plays(t, "P8.2", m, open(1, 3), ok(1))
	plays(t, "P8.4", m, ask(2, 3, 1, makes("/a", "x")), ok(2, a), made("/a", "x"))
	plays(t, "P8.4", m, ask(3, 3, 1, makes("/b", "")), ok(2, a))
	plays(t, "P8.4", m, ask(4, 3, 2, makes("/a", "")), bad(4, api.ErrExists))
	keeps(t, "P8.4", m, 3, 2, bad(4, api.ErrExists))
	plays(t, "P8.4", m, ask(5, 3, 1, gets("/a")), bad(5, api.ErrRequest))
	plays(t, "P8.4", m, ask(6, 4, 1, gets("/a")), bad(6, api.ErrSession))
	plays(t, "P8.4", m, ask(7, 3, 5, makes("/e", "", api.FlagBrief)), ok(7, api.Result{Place: "/e", Made: 7, Changed: 7, Owner: 3}), made("/e", ""))
	plays(t, "P8.2", m, open(8, 19), ok(8), gone("/e")...)
	if !slices.Equal(m.Sessions(), []int{19}) || m.Newest(3) != 19 {
		t.Errorf("P8.2: Sessions %v, Newest(3) %d", m.Sessions(), m.Newest(3))
	}
	plays(t, "P8.2", m, open(9, 3), bad(9, api.ErrOld))
	plays(t, "P8.3", m, shut(10, 3), bad(10, api.ErrSession))
	plays(t, "P8.2", m, open(11, 19), ok(11))
	plays(t, "P8.3", m, shut(12, 19), ok(12))
	plays(t, "P8.2", m, open(13, 19), bad(13, api.ErrOld))
	refuses(t, "P8.1", m, open(13, 19), api.ErrStamp)
	refuses(t, "P8.1", m, open(15, 35), api.ErrStamp)

	m = state.New()
	refuses(t, "P8.1", m, open(1, 0), api.ErrArg)
	refuses(t, "P8.1", m, open(2, 1), api.ErrStamp)
	refuses(t, "P8.1", m, ask(1, 1, 0), api.ErrArg)
	if got, want := state.New().Freeze(), "\x00\x01\x01\x2f\x00\x00\x00\x00\x00\x00"+strings.Repeat("\x00", 48); got != want {
		t.Errorf("P8.7: %x, want %x", got, want)
	}
}

func inRange(v int) bool { return v >= 1 && v <= most }

// TestWhetherItMayBe: P8.1, every number at the ends, of every kind of entry, with ops and without.
func TestWhetherItMayBe(t *testing.T) {
	kinds := append(ends(), api.EntryRequest, api.EntryOpen, api.EntryClose, api.EntryExpire, api.EntryExpire+1)
	count := 0
	for _, kind := range kinds {
		for _, view := range ends() {
			for _, session := range ends() {
				for _, request := range ends() {
					for ops := range 3 {
						e := api.Entry{Stamp: 1, View: view, Kind: kind, Session: session, Request: request, Ops: slices.Repeat([]api.Op{gets("/")}, ops)}
						may := inRange(view) && inRange(session) && kind >= 1 && kind <= 4
						if kind == api.EntryRequest {
							may = may && inRange(request)
						} else {
							may = may && request == 0 && ops == 0
						}
						want, last := api.ErrArg, 0
						if may {
							want, last = api.OK, 1
							count++
						}
						m := state.New()
						if reply, changes, code := m.Apply(e); code != want || reply.Stamp != last || len(changes) != 0 || m.Last() != last {
							t.Fatalf("P8.1: Apply(%s) = %s, %s, %d; want %d", tell(e), tell(reply), tell(changes), code, want)
						}
					}
				}
			}
		}
	}
	if count < 1000 {
		t.Errorf("only %d of these entries may be", count)
	}
}

// TestOrderOfErrors: P8.1, too many ops come first, then what the entry is, then its stamp.
func TestOrderOfErrors(t *testing.T) {
	five := slices.Repeat([]api.Op{gets("/")}, api.MaxOps+1)
	for _, m := range []*state.Machine{state.New(), {}, played(t, rich()...)} {
		next := m.Last() + 1
		for _, c := range []struct {
			e    api.Entry
			want api.Errno
		}{
			{ask(next, 1, 1, five...), api.ErrLong},
			{ask(next+1, 0, 0, five...), api.ErrLong},
			{api.Entry{Ops: five}, api.ErrLong},
			{api.Entry{Stamp: next, View: 1, Kind: api.EntryOpen, Session: 1, Ops: five}, api.ErrLong},
			{api.Entry{Stamp: next, View: 1, Kind: api.EntryClose, Session: 1, Ops: five[:1]}, api.ErrArg},
			{ask(next, 1, 1, slices.Repeat(five, 10000)...), api.ErrLong},
			{ask(next+1, 0, 1), api.ErrArg},
			{ask(next-1, 1, 0), api.ErrArg},
			{api.Entry{Stamp: next + 1, View: 0, Kind: api.EntryOpen, Session: 1}, api.ErrArg},
			{api.Entry{Stamp: next + 1, View: 1, Kind: 5, Session: 1}, api.ErrArg},
			{api.Entry{}, api.ErrArg},
			{ask(next+1, 1, 1, five[:4]...), api.ErrStamp},
			{ask(next-1, 1, 1), api.ErrStamp},
			{open(next+1, 1), api.ErrStamp},
			{shut(next-1, 99), api.ErrStamp},
			{expire(-next, 99), api.ErrStamp},
		} {
			refuses(t, "P8.1, W4", m, c.e, c.want)
		}
	}
}

// TestStamps: P8.1, of all stamps only the next one is taken, and none above the greatest.
func TestStamps(t *testing.T) {
	for _, last := range []int{0, 1, 14, 127, 128, most - 2, most - 1, most} {
		f := frozen{last: last, nodes: rootAlone()}
		for _, stamp := range append(ends(), last-1, last, last+1, last+2) {
			m := thawed(t, f.text())
			if m.Last() != last {
				t.Fatalf("P8.6: Last is %d, want %d", m.Last(), last)
			}
			for _, e := range []api.Entry{open(stamp, 7), shut(stamp, 7), expire(stamp, 7), ask(stamp, 7, 1)} {
				if stamp != last+1 || stamp > most {
					refuses(t, "P8.1", m, e, api.ErrStamp)
				}
			}
			if stamp == last+1 && stamp <= most {
				plays(t, "P8.1", m, open(stamp, 7), ok(stamp))
			}
		}
	}
}

// TestFourOps: P8.1, as many ops as a request may have, and none: the tree's answer is the machine's.
func TestFourOps(t *testing.T) {
	m := played(t, open(1, 1))
	plays(t, "P8.4", m, ask(2, 1, 1, gets("/"), gets("/"), gets("/"), gets("/x")), api.Reply{Stamp: 2, Code: api.ErrNoNode, At: 3})
	keeps(t, "P8.4", m, 1, 1, api.Reply{Stamp: 2, Code: api.ErrNoNode, At: 3})
	root := api.Result{Place: "/"}
	plays(t, "P8.4", m, ask(3, 1, 2, gets("/"), gets("/"), gets("/"), gets("/")), ok(3, root, root, root, root))
	plays(t, "P8.4", m, ask(4, 1, 3), bad(4, api.ErrOp))
	plays(t, "P8.4", m, ask(5, 1, 3, gets("/")), bad(4, api.ErrOp))
	keeps(t, "P8.4", m, 1, 3, bad(4, api.ErrOp))
}

// TestOpsThatMayNotBe: P8.4, what an op holds is the tree's to refuse: the entry is played, and the reply kept.
func TestOpsThatMayNotBe(t *testing.T) {
	huge := strings.Repeat("x", 1<<20)
	m := played(t, open(1, 1))
	for i, c := range []struct {
		op   api.Op
		code api.Errno
	}{
		{api.Op{}, api.ErrOp}, {api.Op{Kind: 8, Place: "/"}, api.ErrOp}, {api.Op{Kind: math.MinInt}, api.ErrOp}, {makes("/a", "", 4), api.ErrOp},
		{gets(huge), api.ErrPlace}, {gets(""), api.ErrPlace}, {makes("/a", huge), api.ErrLarge}, {makes("/", ""), api.ErrRoot}, {drops("/"), api.ErrRoot}, {gets("/a"), api.ErrNoNode},
		{api.Op{Kind: api.OpSet, Place: "/", Version: math.MaxInt}, api.ErrVersion},
	} {
		stamp := i + 2
		plays(t, "P8.4", m, ask(stamp, 1, i+1, c.op), bad(stamp, c.code))
		keeps(t, "P8.4", m, 1, i+1, bad(stamp, c.code))
	}
}

// TestOpen: P8.2, in every slot: sessions below, at and above the greatest one, open or not.
func TestOpen(t *testing.T) {
	for slot := range api.MaxSlots {
		first, second, third := slot+api.MaxSlots, slot+2*api.MaxSlots, most-most%api.MaxSlots-api.MaxSlots+slot
		brief := makes("/b", "x", api.FlagBrief)
		m := state.New()
		plays(t, "P8.2", m, open(1, first), ok(1))
		keeps(t, "P8.2", m, first, 0, api.Reply{})
		plays(t, "P8.4", m, ask(2, first, 9, brief, sets("/b", "y")), ok(2, api.Result{Place: "/b", Made: 2, Changed: 2, Owner: first}, api.Result{Place: "/b", Version: 1, Made: 2, Changed: 2, Owner: first}), made("/b", "x"), api.Change{Kind: api.ChangeSet, Place: "/b", Data: "y", Version: 1})
		plays(t, "P8.2: open already", m, open(3, first), ok(3))
		if n, reply, code := m.Kept(first); n != 9 || reply.Stamp != 2 || len(reply.Results) != 2 || code != api.OK {
			t.Errorf("P8.2: a session that is opened again has %d, %s, %d", n, tell(reply), code)
		}
		plays(t, "P8.2: a greater one", m, open(4, second), ok(4), api.Change{Kind: api.ChangeGone, Place: "/b", Version: 1})
		keepsNone(t, "P8.2", m, first)
		keeps(t, "P8.2", m, second, 0, api.Reply{})
		plays(t, "P8.2: one below", m, open(5, first), bad(5, api.ErrOld))
		plays(t, "P8.3", m, shut(6, second), ok(6))
		plays(t, "P8.2: not open any more", m, open(7, second), bad(7, api.ErrOld))
		plays(t, "P8.2: one below", m, open(8, first), bad(8, api.ErrOld))
		if m.Newest(slot) != second || len(m.Sessions()) != 0 {
			t.Errorf("P8.6: Newest(%d) is %d, Sessions %v", slot, m.Newest(slot), m.Sessions())
		}
		plays(t, "P8.2: greater than one that is not open", m, open(9, third), ok(9))
		if m.Newest(slot) != third || !slices.Equal(m.Sessions(), []int{third}) {
			t.Errorf("P8.6: Newest(%d) is %d, Sessions %v", slot, m.Newest(slot), m.Sessions())
		}
		keepsNone(t, "P8.2", m, second)
		for other := range api.MaxSlots {
			if other != slot && m.Newest(other) != 0 {
				t.Errorf("P8.6: Newest(%d) is %d", other, m.Newest(other))
			}
		}
	}
}

// TestSlotsAreApart: P8.2, a session ends only that of its own slot.
func TestSlotsAreApart(t *testing.T) {
	m := state.New()
	stamp := 0
	for s := 1; s <= 16; s++ {
		stamp++
		plays(t, "P8.2", m, open(stamp, s), ok(stamp))
		stamp++
		at := fmt.Sprintf("/b%02d", s)
		plays(t, "P8.4", m, ask(stamp, s, 1, makes(at, "", api.FlagBrief)), ok(stamp, api.Result{Place: at, Made: stamp, Changed: stamp, Owner: s}), made(at, ""))
	}
	for s := 17; s <= 32; s++ {
		stamp++
		plays(t, "P8.2", m, open(stamp, s), ok(stamp), gone(fmt.Sprintf("/b%02d", s-16))...)
		if len(m.Sessions()) != 16 || m.Newest(s%16) != s {
			t.Errorf("P8.2: Sessions %v", m.Sessions())
		}
	}
}

// TestEnd: P8.3, a session that is closed or given up is forgotten, and its brief nodes go in order.
func TestEnd(t *testing.T) {
	for _, end := range []func(stamp, session int) api.Entry{shut, expire} {
		m := played(t, open(1, 5), open(2, 6),
			ask(3, 5, 8, makes("/b", "x", api.FlagBrief), makes("/a", "y")),
			ask(4, 6, 1, makes("/a/z", "", api.FlagBrief)),
			ask(5, 5, 9, makes("/a/b", "", api.FlagBrief), makes("/a-b", "", api.FlagBrief)))
		plays(t, "P8.3", m, end(6, 21), bad(6, api.ErrSession))
		plays(t, "P8.3", m, end(7, 7), bad(7, api.ErrSession))
		if !slices.Equal(m.Sessions(), []int{5, 6}) {
			t.Errorf("P8.3: Sessions %v", m.Sessions())
		}
		plays(t, "P8.3", m, end(8, 5), ok(8), gone("/a/b", "/a-b", "/b")...)
		keepsNone(t, "P8.3", m, 5)
		if m.Newest(5) != 5 || !slices.Equal(m.Sessions(), []int{6}) {
			t.Errorf("P8.3: Newest(5) %d, Sessions %v", m.Newest(5), m.Sessions())
		}
		plays(t, "P8.3: it has ended", m, end(9, 5), bad(9, api.ErrSession))
		plays(t, "P8.4: it has ended", m, ask(10, 5, 9, gets("/a")), bad(10, api.ErrSession))
		plays(t, "P8.4: it has ended", m, ask(11, 5, 10, makes("/c", "")), bad(11, api.ErrSession))
		plays(t, "P8.3", m, end(12, 6), ok(12), gone("/a/z")...)
		if s, code := m.Part("/", api.WatchSubtree); code != api.OK || len(s.Nodes) != 2 || s.Nodes[1].Place != "/a" || s.Stamp != 12 {
			t.Errorf("P8.3: there is %s, %d", tell(s), code)
		}
	}
}

// TestRequests: P8.4, requests that are asked again, with other ops too, below the last one, and far above it.
func TestRequests(t *testing.T) {
	m := played(t, open(1, 1), open(2, 2))
	made5 := ok(3, api.Result{Place: "/n00000", Made: 3, Changed: 3}, api.Result{Place: "/", Kids: []string{"n00000"}})
	count := []api.Op{makes("/n", "", api.FlagCounted), lists("/")}
	plays(t, "P8.4", m, ask(3, 1, 5, count...), made5, made("/n00000", ""))
	for i, ops := range [][]api.Op{count, count, nil, {drops("/n00000")}, {{}}, count} {
		plays(t, "P8.4: asked again", m, ask(4+i, 1, 5, ops...), made5)
		keeps(t, "P8.4", m, 1, 5, made5)
	}
	for i, number := range []int{4, 1, 2, 3} {
		plays(t, "P8.4: below the last one", m, ask(10+i, 1, number, count...), bad(10+i, api.ErrRequest))
		keeps(t, "P8.4", m, 1, 5, made5)
	}
	plays(t, "P8.4: of another session", m, ask(14, 2, 5, count...), ok(14, api.Result{Place: "/n00001", Made: 14, Changed: 14}, api.Result{Place: "/", Kids: []string{"n00000", "n00001"}}), made("/n00001", ""))
	keeps(t, "P8.4", m, 1, 5, made5)
	plays(t, "P8.4: refused by the tree", m, ask(15, 1, 6, drops("/n00001"), gets("/x")), api.Reply{Stamp: 15, Code: api.ErrNoNode, At: 1})
	plays(t, "P8.4: refused, asked again", m, ask(16, 1, 6, drops("/n00001")), api.Reply{Stamp: 15, Code: api.ErrNoNode, At: 1})
	plays(t, "P8.4", m, ask(17, 1, 5, count...), bad(17, api.ErrRequest))
	plays(t, "P8.4: the greatest number", m, ask(18, 1, most, drops("/n00001")), ok(18, api.Result{Place: "/n00001"}), gone("/n00001")...)
	plays(t, "P8.4", m, ask(19, 1, most, drops("/n00000")), ok(18, api.Result{Place: "/n00001"}))
	plays(t, "P8.4", m, ask(20, 1, most-1, drops("/n00000")), bad(20, api.ErrRequest))
	keeps(t, "P8.4", m, 1, most, ok(18, api.Result{Place: "/n00001"}))
}

// TestAnotherSessionAgain: P8.4, the greatest session begins its requests anew, whatever that ahead of it in the slot asked.
func TestAnotherSessionAgain(t *testing.T) {
	m := played(t, open(1, 4), ask(2, 4, 9, makes("/a", "")), open(3, 20))
	keeps(t, "P8.2", m, 20, 0, api.Reply{})
	plays(t, "P8.4", m, ask(4, 20, 1, gets("/a")), ok(4, api.Result{Place: "/a", Made: 2, Changed: 2}))
	plays(t, "P8.4", m, ask(5, 4, 9, gets("/a")), bad(5, api.ErrSession))
}

// TestGreatestSession: P8.1 and P8.2, the smallest and the greatest sessions.
func TestGreatestSession(t *testing.T) {
	m := state.New()
	plays(t, "P8.2", m, open(1, most), ok(1))
	plays(t, "P8.2", m, open(2, 1), ok(2))
	plays(t, "P8.2", m, open(3, 15), bad(3, api.ErrOld))
	plays(t, "P8.2", m, open(4, most-16), bad(4, api.ErrOld))
	plays(t, "P8.2", m, open(5, most), ok(5))
	plays(t, "P8.2", m, open(6, most-15), ok(6))
	if m.Newest(15) != most || m.Newest(0) != most-15 || m.Newest(1) != 1 || !slices.Equal(m.Sessions(), []int{1, most - 15, most}) {
		t.Errorf("P8.6: %d, %d, %d, %v", m.Newest(15), m.Newest(0), m.Newest(1), m.Sessions())
	}
	plays(t, "P8.3", m, expire(7, most), ok(7))
	plays(t, "P8.2", m, open(8, most), bad(8, api.ErrOld))
}

// TestAsking: P8.6, of a machine with many sessions, and of slots and sessions that there are not.
func TestAsking(t *testing.T) {
	m := played(t, rich()...)
	if m.Last() != len(rich()) {
		t.Errorf("P8.6: Last is %d", m.Last())
	}
	if !slices.Equal(m.Sessions(), []int{2, 33, 47, 48}) {
		t.Errorf("P8.6: Sessions %v", m.Sessions())
	}
	want := [api.MaxSlots]int{48, 33, 2, 15: 47}
	for slot := -40; slot < 80; slot++ {
		newest := 0
		if slot >= 0 && slot < api.MaxSlots {
			newest = want[slot]
		}
		if m.Newest(slot) != newest {
			t.Errorf("P8.6: Newest(%d) is %d, want %d", slot, m.Newest(slot), newest)
		}
	}
	for _, n := range ends() {
		if (n < 0 || n >= api.MaxSlots) && m.Newest(n) != 0 {
			t.Errorf("P8.6: Newest(%d) is %d", n, m.Newest(n))
		}
		if n != 2 {
			keepsNone(t, "P8.6", m, n)
		}
	}
	for _, n := range []int{17, 31, 32, 18, -2, -48} {
		keepsNone(t, "P8.6", m, n)
	}
}

// TestPart: P8.6, as Take of the tree at the last stamp, with its errors.
func TestPart(t *testing.T) {
	m := played(t, rich()...)
	for _, c := range []struct {
		place string
		kind  int
		want  []api.Seen
		code  api.Errno
	}{
		{"/", api.WatchNode, []api.Seen{{Place: "/"}}, api.OK},
		{"/", api.WatchKids, []api.Seen{{Place: "/"}, {Place: "/a"}, {Place: "/c"}}, api.OK},
		{"/a", api.WatchSubtree, []api.Seen{{Place: "/a", Data: "other data", Version: 1}, {Place: "/a/n00001"}}, api.OK},
		{"/x", api.WatchSubtree, nil, api.OK},
		{"x", api.WatchSubtree, nil, api.ErrPlace}, {"", 0, nil, api.ErrPlace}, {strings.Repeat("/a", 1<<20), api.WatchNode, nil, api.ErrPlace},
		{"/", 0, nil, api.ErrArg}, {"/a", 4, nil, api.ErrArg}, {"/a", math.MinInt, nil, api.ErrArg},
	} {
		s, code := m.Part(c.place, c.kind)
		want := api.Shot{}
		if c.code == api.OK {
			want = api.Shot{Stamp: m.Last(), Place: c.place, Kind: c.kind}
		}
		if code != c.code || s.Stamp != want.Stamp || s.Place != want.Place || s.Kind != want.Kind || !slices.Equal(s.Nodes, c.want) {
			t.Errorf("P8.6: Part(%.60q, %d) = %s, %d; want %s, %d", c.place, c.kind, tell(s), code, tell(c.want), c.code)
		}
	}
}

// TestNil: P8.1 and P8.6, a nil machine.
func TestNil(t *testing.T) {
	var m *state.Machine
	five := slices.Repeat([]api.Op{gets("/")}, api.MaxOps+1)
	for _, e := range []api.Entry{{}, open(1, 1), shut(1, 1), expire(1, 1), ask(1, 1, 1), ask(1, 1, 1, five...), open(2, 1)} {
		refuses(t, "P8.1: a nil machine", m, e, api.ErrArg)
	}
	for _, n := range ends() {
		keepsNone(t, "P8.6: a nil machine", m, n)
		if m.Newest(n) != 0 {
			t.Errorf("P8.6: a nil machine: Newest(%d) is %d", n, m.Newest(n))
		}
	}
	if m.Last() != 0 || len(m.Sessions()) != 0 || m.Freeze() != "" {
		t.Errorf("P8.6: a nil machine: %d, %v, %x", m.Last(), m.Sessions(), m.Freeze())
	}
	for _, at := range []string{"/", "", "x", "/x"} {
		for kind := -1; kind <= 4; kind++ {
			if s, code := m.Part(at, kind); code != api.ErrArg || s.Stamp != 0 || s.Place != "" || s.Kind != 0 || len(s.Nodes) != 0 {
				t.Errorf("P8.6: a nil machine: Part(%q, %d) = %s, %d", at, kind, tell(s), code)
			}
		}
	}
}

// TestZero: the zero Machine is as New's, whatever it is asked first.
func TestZero(t *testing.T) {
	want := state.New()
	if code := sameAnswers(&state.Machine{}, want); code != "" {
		t.Errorf("P8.6: a zero machine: %s", code)
	}
	for _, e := range []api.Entry{open(1, 3), shut(1, 3), expire(1, 3), ask(1, 3, 1, gets("/")), open(2, 3), {}} {
		z, m := &state.Machine{}, state.New()
		reply, changes, code := z.Apply(e)
		wantReply, wantChanges, wantCode := m.Apply(e)
		if !sameReply(reply, wantReply) || !slices.Equal(changes, wantChanges) || code != wantCode {
			t.Errorf("P8.1: a zero machine: Apply(%s) = %s, %s, %d; want %s, %s, %d", tell(e), tell(reply), tell(changes), code, tell(wantReply), tell(wantChanges), wantCode)
		}
		if code := sameAnswers(z, m); code != "" {
			t.Errorf("P8.1: a zero machine behind %s: %s", tell(e), code)
		}
	}
	if code := sameAnswers(thawed(t, (&state.Machine{}).Freeze()), want); code != "" {
		t.Errorf("P8.9: a zero machine, frozen and thawed: %s", code)
	}
	if state.New() == state.New() {
		t.Error("P8.10: New answers one machine twice")
	}
}
