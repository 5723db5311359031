package state_test

import (
	"fmt"
	"slices"
	"strings"
	"testing"

	"herald/api"
	"herald/state"
	"herald/tree"
)

// TestFreeze: P8.7, the bytes, one by one.
func TestFreeze(t *testing.T) {
	empty := strings.Repeat("\x00\x00\x00", api.MaxSlots)
	root := "\x01/\x00\x00\x00\x00\x00\x00"
	for _, c := range []struct {
		what string
		m    *state.Machine
		want string
	}{
		{"a new machine", state.New(), "\x00\x01" + root + empty},
		{"a zero machine", &state.Machine{}, "\x00\x01" + root + empty},
		{"a nil machine", nil, ""},
		{"a stamp alone", played(t, shut(1, 1)), "\x01\x01" + root + empty},
		{"an open session", played(t, open(1, 1)), "\x01\x01" + root + empty[:3] + "\x01\x01\x00" + empty[6:]},
		{"the first slot", played(t, open(1, 300*16)), "\x01\x01" + root + "\xc0\x25\x01\x00" + empty[3:]},
		{"the last slot", played(t, open(1, most)), "\x01\x01" + root + empty[3:] + "\xff\xff\xff\xff\x07\x01\x00"},
		{"a session that has ended", played(t, open(1, 1), expire(2, 1)), "\x02\x01" + root + empty[:3] + "\x01\x00\x00" + empty[6:]},
		{"a session that was asked again", played(t, open(1, 1), ask(2, 1, 2), ask(3, 1, 2), ask(4, 1, 1)), "\x04\x01" + root + empty[:3] + "\x01\x01\x02" + "\x02\x30\x00\x00" + empty[6:]},
		{"the op that failed", played(t, open(1, 1), ask(2, 1, 200, gets("/"), gets("/"), gets("/a"))), "\x02\x01" + root + empty[:3] + "\x01\x01\xc8\x01" + "\x02\x28\x02\x00" + empty[6:]},
		{"a request that was answered, and a session that ended behind it", played(t, open(1, 1), ask(2, 1, 1, gets("/")), shut(3, 1)), "\x03\x01" + root + empty[:3] + "\x01\x00\x00" + empty[6:]},
		{"nodes and results", played(t, open(1, 2), ask(2, 2, 1, makes("/b", "z", api.FlagBrief), makes("/n", "", api.FlagCounted), sets("/", "r")), ask(3, 2, 3, sets("/n00000", "y"), gets("/n00000"), lists("/"))),
			"\x03\x03" + "\x01/\x01r\x01\x00\x02\x00\x01" + "\x02/b\x01z\x00\x02\x02\x02\x00" + "\x07/n00000\x01y\x01\x02\x03\x00\x00" +
				empty[:6] + "\x02\x01\x03" + "\x03\x00\x00\x03" + "\x07/n00000\x00\x01\x02\x03\x00\x00" + "\x07/n00000\x01y\x01\x02\x03\x00\x00" + "\x01/\x00\x01\x00\x02\x00\x02\x01b\x06n00000" + empty[9:]},
	} {
		if got := c.m.Freeze(); got != c.want {
			t.Errorf("P8.7: %s: %x, want %x", c.what, got, c.want)
		}
	}
}

// sample is a machine with something in every field: what is not zero is there only once, as far as it can be.
func sample() frozen {
	f := frozen{last: 90, nodes: []tree.Full{
		{Place: "/", Data: "root", Version: 3, Changed: 41, Counter: 8},
		{Place: "/a", Data: "of a", Version: 4, Made: 12, Changed: 42, Counter: 100000},
		{Place: "/a/b", Data: "brief", Version: 5, Made: 13, Changed: 43, Owner: 35},
		{Place: "/c", Data: strings.Repeat("d", 64), Version: most, Made: 90, Changed: 90, Owner: 48},
	}}
	f.slots[0] = slot{newest: 48, open: 1, request: 7, reply: api.Reply{Stamp: 55, Code: api.ErrVersion, At: 3}}
	f.slots[2] = slot{newest: 18}
	f.slots[3] = slot{newest: 35, open: 1, request: most, reply: api.Reply{Stamp: 90, Results: []api.Result{
		{Place: "/a", Data: "got", Version: 61, Made: 62, Changed: 63, Owner: 64, Kids: []string{"b", "n00001", "..."}},
		{}, {Place: "/", Kids: []string{long(1)}}, {Place: "/gone", Version: most, Made: most, Changed: most, Owner: most},
	}}}
	f.slots[4] = slot{newest: 4, open: 1}
	f.slots[9] = slot{newest: 9, open: 1, request: 1, reply: api.Reply{Stamp: 1}}
	f.slots[15] = slot{newest: most, open: 1, request: 2, reply: api.Reply{Stamp: 2, Code: most}}
	return f
}

// TestSample: P8.8, the machine that the others are bent from may be.
func TestSample(t *testing.T) {
	if !thaws(t, "the sample", sample().text()) {
		t.Fatal("P8.8: the sample is no machine")
	}
}

// TestThawEdges: P8.8, of every condition the last that holds and the first that does not.
func TestThawEdges(t *testing.T) {
	kids := func(n int) []string { return slices.Repeat([]string{"k"}, n) }
	filled := func(n int) []tree.Full {
		all := rootAlone()
		for i := range n - 1 {
			all = append(all, tree.Full{Place: fmt.Sprintf("/x%02d", i)})
		}
		return all
	}
	for _, c := range []struct {
		what string
		bend func(*frozen)
		want bool
	}{
		{"the root alone", func(f *frozen) { f.nodes = f.nodes[:1] }, true},
		{"no node", func(f *frozen) { f.nodes = nil }, false},
		{"no root", func(f *frozen) { f.nodes = f.nodes[1:] }, false},
		{"the most nodes", func(f *frozen) { f.nodes = filled(64) }, true},
		{"one node more", func(f *frozen) { f.nodes = filled(65) }, false},
		{"nodes out of order", func(f *frozen) { f.nodes[1], f.nodes[3] = f.nodes[3], f.nodes[1] }, false},
		{"a node twice", func(f *frozen) { f.nodes[3] = f.nodes[2] }, false},
		{"a node without its parent", func(f *frozen) { f.nodes = slices.Delete(f.nodes, 1, 2) }, false},
		{"a node's place that is none", func(f *frozen) { f.nodes[3].Place = "/c d" }, false},
		{"a node's data with a byte more", func(f *frozen) { f.nodes[3].Data += "d" }, false},
		{"a counter one too great", func(f *frozen) { f.nodes[1].Counter++ }, false},
		{"a brief node with a counter", func(f *frozen) { f.nodes[2].Counter = 1 }, false},
		{"a brief node with a child", func(f *frozen) { f.nodes[1].Owner, f.nodes[1].Counter = 35, 0 }, false},
		{"a brief root", func(f *frozen) { f.nodes[0].Owner, f.nodes, f.nodes[0].Counter = 35, f.nodes[:1], 0 }, false},
		{"a node made at the last stamp", func(f *frozen) { f.nodes[1].Made = 90 }, true},
		{"a node made behind the last stamp", func(f *frozen) { f.nodes[1].Made = 91 }, false},
		{"the last node made behind the last stamp", func(f *frozen) { f.nodes[3].Made = 91 }, false},
		{"a node changed at the last stamp", func(f *frozen) { f.nodes[0].Changed = 90 }, true},
		{"a node changed behind the last stamp", func(f *frozen) { f.nodes[0].Changed = 91 }, false},
		{"a node changed ahead of being made", func(f *frozen) { f.nodes[1].Changed = 0 }, true},
		{"a version above the last stamp", func(f *frozen) { f.nodes[1].Version = most }, true},
		{"an owner that is open", func(f *frozen) { f.nodes[2].Owner = 4 }, true},
		{"an owner that is not open", func(f *frozen) { f.nodes[2].Owner = 18 }, false},
		{"an owner of an empty slot", func(f *frozen) { f.nodes[2].Owner = 1 }, false},
		{"an owner that its slot has not", func(f *frozen) { f.nodes[2].Owner = 19 }, false},
		{"an owner above the slot's greatest", func(f *frozen) { f.nodes[2].Owner = 51 }, false},
		{"an owner whose session has ended", func(f *frozen) { f.slots[0] = slot{newest: 48} }, false},
		{"a slot's first session", func(f *frozen) { f.slots[1] = slot{newest: 1} }, true},
		{"a slot's greatest session", func(f *frozen) { f.slots[1] = slot{newest: most - 14} }, true},
		{"the first slot's first session", func(f *frozen) { f.slots[0] = slot{newest: 16}; f.nodes = f.nodes[:3] }, true},
		{"another slot's session", func(f *frozen) { f.slots[1] = slot{newest: 2} }, false},
		{"another slot's open session", func(f *frozen) { f.slots[1] = slot{newest: 35, open: 1} }, false},
		{"a session that is the slot's number of times too many", func(f *frozen) { f.slots[2] = slot{newest: 16} }, false},
		{"a slot without a session that is open", func(f *frozen) { f.slots[1] = slot{open: 1} }, false},
		{"the first slot without a session that is open", func(f *frozen) { f.slots[0] = slot{open: 1}; f.nodes = f.nodes[:3] }, false},
		{"a slot without a session with a request", func(f *frozen) { f.slots[1] = slot{request: 1, reply: api.Reply{Stamp: 1}} }, false},
		{"open neither 0 nor 1", func(f *frozen) { f.slots[4].open = 2 }, false},
		{"open by the greatest number", func(f *frozen) { f.slots[4].open = most }, false},
		{"a request of one that is not open", func(f *frozen) { f.slots[2] = slot{newest: 18, request: 1, reply: api.Reply{Stamp: 1}} }, false},
		{"an open session of a machine that has played nothing", func(f *frozen) { *f = frozen{nodes: rootAlone()}; f.slots[1] = slot{newest: 1, open: 1} }, true},
		{"a reply at stamp 0", func(f *frozen) { f.slots[9].reply.Stamp = 0 }, false},
		{"a reply at the last stamp", func(f *frozen) { f.slots[9].reply.Stamp = 90 }, true},
		{"a reply behind the last stamp", func(f *frozen) { f.slots[9].reply.Stamp = 91 }, false},
		{"a reply of a machine that has played nothing", func(f *frozen) {
			*f = frozen{nodes: rootAlone()}
			f.slots[1] = slot{newest: 1, open: 1, request: 1, reply: api.Reply{Stamp: 1}}
		}, false},
		{"any code", func(f *frozen) { f.slots[9].reply.Code = 7 }, true},
		{"the last op failed", func(f *frozen) { f.slots[9].reply.Code, f.slots[9].reply.At = 40, 3 }, true},
		{"one op behind the last failed", func(f *frozen) { f.slots[9].reply.Code, f.slots[9].reply.At = 40, 4 }, false},
		{"an op that failed, and OK", func(f *frozen) { f.slots[9].reply.At = 1 }, false},
		{"results, and not OK", func(f *frozen) { f.slots[3].reply.Code = 1 }, false},
		{"one result, and not OK", func(f *frozen) {
			f.slots[15].reply.Results = []api.Result{{}}
		}, false},
		{"one result, and OK", func(f *frozen) { f.slots[9].reply.Results = []api.Result{{}} }, true},
		{"one result more", func(f *frozen) { f.slots[3].reply.Results = append(f.slots[3].reply.Results, api.Result{}) }, false},
		{"a result's place with the most bytes", func(f *frozen) { f.slots[3].reply.Results[0].Place = strings.Repeat("/"+long(7), 6) }, true},
		{"a result's place with a name more", func(f *frozen) { f.slots[3].reply.Results[0].Place = strings.Repeat("/a", 7) }, false},
		{"a result's place with a byte more", func(f *frozen) { f.slots[3].reply.Results[0].Place = "/" + long(7) + "n" }, false},
		{"a result's place that is none", func(f *frozen) { f.slots[3].reply.Results[3].Place = "gone" }, false},
		{"a result's place that ends with a slash", func(f *frozen) { f.slots[3].reply.Results[3].Place = "/gone/" }, false},
		{"a long text in a result's place", func(f *frozen) { f.slots[3].reply.Results[3].Place = "/" + strings.Repeat("x", 100000) }, false},
		{"a result's data with the most bytes", func(f *frozen) { f.slots[3].reply.Results[0].Data = strings.Repeat("\xff", 64) }, true},
		{"a result's data with a byte more", func(f *frozen) { f.slots[3].reply.Results[0].Data = strings.Repeat("\xff", 65) }, false},
		{"the most kids", func(f *frozen) { f.slots[3].reply.Results[1].Kids = kids(64) }, true},
		{"one kid more", func(f *frozen) { f.slots[3].reply.Results[1].Kids = kids(65) }, false},
		{"a kid with the most bytes", func(f *frozen) { f.slots[3].reply.Results[1].Kids = []string{long(0)} }, true},
		{"a kid with a byte more", func(f *frozen) { f.slots[3].reply.Results[1].Kids = []string{long(0) + "n"} }, false},
		{"an empty kid", func(f *frozen) { f.slots[3].reply.Results[1].Kids = []string{""} }, false},
		{"a kid with a slash", func(f *frozen) { f.slots[3].reply.Results[1].Kids = []string{"a/b"} }, false},
		{"a kid with a slash ahead", func(f *frozen) { f.slots[3].reply.Results[1].Kids = []string{"/a"} }, false},
		{"a kid with a slash behind", func(f *frozen) { f.slots[3].reply.Results[1].Kids = []string{"a/"} }, false},
		{"a kid that is a dot", func(f *frozen) { f.slots[3].reply.Results[1].Kids = []string{"."} }, false},
		{"a kid that is two dots", func(f *frozen) { f.slots[3].reply.Results[1].Kids = []string{"a", ".."} }, false},
		{"a kid with a blank", func(f *frozen) { f.slots[3].reply.Results[1].Kids = []string{"a b"} }, false},
		{"a kid with a byte that is no letter", func(f *frozen) { f.slots[3].reply.Results[1].Kids = []string{"\xc3\xa9"} }, false},
	} {
		f := sample()
		c.bend(&f)
		if got := thaws(t, c.what, f.text()); got != c.want {
			t.Errorf("P8.8: %s: %v", c.what, got)
		}
	}
}

// numbersOf are all numbers of what is frozen, to be bent one by one.
func numbersOf(f *frozen) []*int {
	all := []*int{&f.last}
	for i := range f.nodes {
		n := &f.nodes[i]
		all = append(all, &n.Version, &n.Made, &n.Changed, &n.Owner, &n.Counter)
	}
	for i := range f.slots {
		s := &f.slots[i]
		all = append(all, &s.newest, &s.open, &s.request, &s.reply.Stamp, (*int)(&s.reply.Code), &s.reply.At)
		for j := range s.reply.Results {
			r := &s.reply.Results[j]
			all = append(all, &r.Version, &r.Made, &r.Changed, &r.Owner)
		}
	}
	return all
}

// TestThawEveryNumber: P8.8, every number of a machine turned into others, one at a time.
func TestThawEveryNumber(t *testing.T) {
	f := sample()
	may, not := 0, 0
	for i := range numbersOf(&f) {
		for _, v := range []int{0, 1, 2, 3, 4, 15, 16, 17, 18, 32, 34, 35, 36, 48, 51, 64, 89, 90, 91, 127, 128, 99999, 100000, 100001, most - 15, most - 1, most, most + 1, 1 << 32} {
			f := sample()
			*numbersOf(&f)[i] = v
			if thaws(t, fmt.Sprintf("the number %d is %d", i, v), f.text()) {
				may++
			} else {
				not++
			}
		}
	}
	if may < 300 || not < 300 {
		t.Errorf("%d of these may be, %d not", may, not)
	}
}

// TestThawCuts: P8.8, no beginning of a machine's text is one, no end, and nothing stands behind it.
func TestThawCuts(t *testing.T) {
	for _, text := range []string{state.New().Freeze(), sample().text(), played(t, rich()...).Freeze()} {
		for i := range len(text) {
			if _, code := state.Thaw(text[:i]); code != api.ErrThaw {
				t.Errorf("P8.8: the first %d bytes of %x: %d", i, text, code)
			}
			thaws(t, "an end", text[i:])
			thaws(t, "a byte is left out", text[:i]+text[i+1:])
			thaws(t, "a byte stands twice", text[:i]+text[i:i+1]+text[i:])
			thaws(t, "a zero is put in", text[:i]+"\x00"+text[i:])
		}
		for b := range 256 {
			if _, code := state.Thaw(text + string([]byte{byte(b)})); code != api.ErrThaw {
				t.Errorf("P8.8: a byte %x behind: %d", b, code)
			}
		}
		if _, code := state.Thaw(text + text); code != api.ErrThaw {
			t.Errorf("P8.8: a text twice: %d", code)
		}
	}
}

// TestThawGoesOn: P8.8, a beginning of a machine's text whose own first bytes would say all that it lacks: where bytes end early, nothing is made up for them.
func TestThawGoesOn(t *testing.T) {
	f := frozen{last: 56, nodes: []tree.Full{{Place: "/", Made: 1}}}
	f.slots[1] = slot{newest: 1, open: 1, request: 'a', reply: api.Reply{Stamp: 9}}
	if !thaws(t, "the whole text", f.text()) {
		t.Fatal("P8.8: no machine's text")
	}
	// The slots from 8 on, and the last request of the slot 7.
	short := f.text()[:len(f.text())-25]
	rest := f
	rest.slots[8] = slot{newest: 56, open: 1, request: 1, reply: api.Reply{Stamp: 47, Results: []api.Result{{Kids: []string{"a"}}}}}
	rest.slots[9] = slot{newest: 9}
	if !strings.HasSuffix(rest.text(), short) || !rest.mayBe() {
		t.Fatalf("the text %x does not end with %x", rest.text(), short)
	}
	if m, code := state.Thaw(short); m != nil || code != api.ErrThaw {
		t.Errorf("P8.8: Thaw(%x): %d", short, code)
	}
}

// TestThawEveryByte: P8.8, every byte of a machine's text turned into every other.
func TestThawEveryByte(t *testing.T) {
	may := 0
	for _, text := range []string{state.New().Freeze(), sample().text(), played(t, rich()...).Freeze()} {
		for i := range len(text) {
			for b := range 256 {
				if thaws(t, "a byte is turned", text[:i]+string([]byte{byte(b)})+text[i+1:]) {
					may++
				}
			}
		}
	}
	if may < 10000 {
		t.Errorf("only %d of these texts are machines'", may)
	}
}

// TestThawOtherForms: P8.8, numbers that are not in their shortest form are not what Freeze writes.
func TestThawOtherForms(t *testing.T) {
	text := state.New().Freeze()
	for i, b := range []byte(text) {
		// The text of the root's place has no number.
		if i == 3 {
			continue
		}
		for _, longer := range []string{string([]byte{b | 0x80, 0}), string([]byte{b | 0x80, 0x80, 0}), string([]byte{b | 0x80, 0x80, 0x80, 0x80, 0})} {
			if _, code := state.Thaw(text[:i] + longer + text[i+1:]); code != api.ErrThaw {
				t.Errorf("P8.8: the number at %d as %x: %d", i, longer, code)
			}
		}
	}
}

// TestThawLong: P8.8, a text is too long by its length alone.
func TestThawLong(t *testing.T) {
	for _, text := range []string{state.New().Freeze(), "", sample().text()} {
		for _, size := range []int{api.MaxState - 1, api.MaxState, api.MaxState + 1, 1 << 22} {
			want := api.ErrThaw
			if size > api.MaxState {
				want = api.ErrLong
			}
			long := text + strings.Repeat("\x00", size-len(text))
			if m, code := state.Thaw(long); m != nil || code != want {
				t.Errorf("P8.8: %d bytes: %d, want %d", size, code, want)
			}
		}
	}
	for _, b := range []string{"\x00", "\x01", "\x7f", "\x80", "\xff", "/"} {
		thaws(t, "rubbish", strings.Repeat(b, api.MaxState))
		thaws(t, "rubbish", strings.Repeat(b, api.MaxState+1))
	}
}

// TestThawGreatCounts: W1, a number that says that very many follow is given up at once.
func TestThawGreatCounts(t *testing.T) {
	great := "\xff\xff\xff\xff\x07"
	root := "\x01/\x00\x00\x00\x00\x00\x00"
	empty := strings.Repeat("\x00\x00\x00", api.MaxSlots)
	for _, text := range []string{
		"\x01" + great + root + empty,
		"\x01\x01" + great + root + empty,
		"\x01\x01\x01/" + great + "\x00\x00\x00\x00\x00" + empty,
		"\x01\x01" + root + "\x10\x01\x01\x01\x00\x00" + great + empty,
		"\x01\x01" + root + "\x10\x01\x01\x01\x00\x00\x01" + great + empty,
		"\x01\x01" + root + "\x10\x01\x01\x01\x00\x00\x01\x00" + great + empty,
		"\x01\x01" + root + "\x10\x01\x01\x01\x00\x00\x01\x00\x00\x00\x00\x00\x00" + great + empty,
		"\x01\x01" + root + "\x10\x01\x01\x01\x00\x00\x01\x00\x00\x00\x00\x00\x00\x01" + great + empty,
	} {
		if m, code := state.Thaw(text); m != nil || code != api.ErrThaw {
			t.Errorf("P8.8: Thaw(%x): %d", text, code)
		}
	}
}

// greatest is the machine with the longest text that may be.
func greatest() frozen {
	wide := api.Result{Place: strings.Repeat("/"+long(9), 6), Data: strings.Repeat("d", 64), Version: most, Made: most, Changed: most, Owner: most, Kids: slices.Repeat([]string{long(0)}, 64)}
	f := frozen{last: most, nodes: []tree.Full{{Place: "/", Data: wide.Data, Version: most, Made: most, Changed: most, Counter: 100000}}}
	for i := 1; i < 6; i++ {
		f.nodes = append(f.nodes, tree.Full{Place: strings.Repeat("/"+long(1), i), Data: wide.Data, Version: most, Made: most, Changed: most, Counter: 100000})
	}
	for i := range 58 {
		f.nodes = append(f.nodes, tree.Full{Place: f.nodes[5].Place + "/" + long(i), Data: wide.Data, Version: most, Made: most, Changed: most, Owner: most - 15 + i%16})
	}
	for i := range f.slots {
		f.slots[i] = slot{newest: most - 15 + i, open: 1, request: most, reply: api.Reply{Stamp: most, Results: []api.Result{wide, wide, wide, wide}}}
	}
	return f
}

// TestGreatestMachine: P8.7, no machine's text is too long for Thaw.
func TestGreatestMachine(t *testing.T) {
	f := greatest()
	if len(f.text()) > api.MaxState || !thaws(t, "the greatest", f.text()) {
		t.Errorf("P8.7: a text of %d bytes", len(f.text()))
	}
	m := thawed(t, f.text())
	refuses(t, "P8.1: behind the greatest stamp", m, open(most+1, 1), api.ErrStamp)
	refuses(t, "P8.1: behind the greatest stamp", m, open(most, 1), api.ErrStamp)
	refuses(t, "P8.1: behind the greatest stamp", m, open(1, 1), api.ErrStamp)
	f.last--
	for i := range f.nodes {
		f.nodes[i].Made, f.nodes[i].Changed = 1, 1
	}
	for i := range f.slots {
		f.slots[i].reply.Stamp = 1
	}
	m = thawed(t, f.text())
	f.follows(t, "P8.4: the greatest stamp", m, ask(most, most, most, gets("/")))
	m = thawed(t, f.text())
	f.follows(t, "P8.3: the greatest stamp", m, shut(most, most))
}

// TestGrown: P8.7, a machine as great as entries make it.
func TestGrown(t *testing.T) {
	f := frozen{nodes: rootAlone()}
	m := state.New()
	play := func(e api.Entry) { f = f.follows(t, "a grown machine", m, e) }
	for s := range 16 {
		play(open(f.last+1, 16+s))
		for r := range 4 {
			play(ask(f.last+1, 16+s, 1+r, makes("/"+long(4*s+r), strings.Repeat("x", 64), s%2)))
		}
	}
	for s := range 16 {
		play(ask(f.last+1, 16+s, 9, lists("/"), lists("/"), lists("/"), lists("/")))
	}
	if len(f.nodes) != 64 || len(m.Freeze()) < 60000 {
		t.Errorf("P8.7: %d nodes, %d bytes", len(f.nodes), len(m.Freeze()))
	}
	thaws(t, "a grown machine", m.Freeze())
}
