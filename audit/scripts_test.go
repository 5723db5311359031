package audit_test

import (
	"fmt"
	"reflect"
	"slices"
	"testing"

	"herald/api"
)

// smallStory is one in which much comes at few stamps.
func smallStory() []api.Entry {
	return story(opens(16), asks(16, 1, makes("/a", "x")), asks(16, 2, sets("/a", "y"), makes("/a/b", "")), asks(16, 3, drops("/a/b"), gets("/a")))
}

// smallTold are things that may be told of it, true and untrue ones.
func smallTold(h []api.Entry) []api.Told {
	wrong := heard(h, 2)
	wrong.Stamp++
	return []api.Told{
		called(h, 2), called(h, 3), heard(h, 2), heard(h, 3), wrong,
		of(2, 16, called(h, 2)), of(2, 16, heard(h, 2)),
		granted(h, 1, 1, "/a", api.WatchKids), granted(h, 2, 1, "/a", api.WatchNode), granted(h, 2, 2, "/a", api.WatchNode), granted(h, 1, 3, "/", api.WatchSubtree),
		granted(h, 1, 0, "/", api.WatchNode), granted(h, 1, 4, "/", api.WatchKids),
		event(2, made("/a", "x", 1)), event(2, made("/a", "x", 1, 2)), event(2, made("/a", "x", 2)),
		event(3, made("/a/b", "", 1)), event(3, set("/a", "y", 1, 2), made("/a/b", "", 1)), event(3, set("/a", "y", 1, 2)),
		event(4, gone("/a/b", 0, 1)), event(5),
		marker(3, part(h, 1, 3, "/a", api.WatchKids)), marker(3, part(h, 1, 3, "/a", api.WatchKids), part(h, 2, 3, "/a", api.WatchNode)), marker(4, part(h, 1, 4, "/", api.WatchSubtree)),
		givesUp(1), givesUp(2), told(api.ToldGone), of(2, 16, granted(h, 1, 1, "/a", api.WatchKids)), of(2, 16, event(2, made("/a", "x", 1))),
	}
}

// TestSmallTellings: P19.2 to P19.4, all lists of up to three things that may be told of a small history, against the second reckoning.
func TestSmallTellings(t *testing.T) {
	t.Parallel()
	h := smallStory()
	x, _ := truthOf(h)
	all := smallTold(h)
	seen := map[string]int{}
	hold := func(list ...api.Told) {
		got, want := answersOf(h, list), x.answers(list)
		if !same(got, want) {
			t.Fatalf("P19.2 to P19.4: told %+v: %s, want %s", list, tell(got), tell(want))
		}
		seen[fmt.Sprint("Replies ", want.Reply)]++
		seen[fmt.Sprint("Items ", want.Item)]++
	}
	hold()
	for _, a := range all {
		hold(a)
		for _, b := range all {
			hold(a, b)
			for _, c := range all {
				hold(a, b, c)
			}
		}
	}
	for _, what := range []string{"Replies 0", "Replies 191", "Replies 192", "Replies 193", "Items 0", "Items 190", "Items 193", "Items 194", "Items 195", "Items 197"} {
		if seen[what] < 50 {
			t.Errorf("the tellings have %q only %d times", what, seen[what])
		}
	}
}

// TestTinyTellings: P19.2 to P19.4, all lists of four and five things out of fewer.
func TestTinyTellings(t *testing.T) {
	t.Parallel()
	h := smallStory()
	x, _ := truthOf(h)
	var hold func(left int, from, list []api.Told)
	hold = func(left int, from, list []api.Told) {
		if left == 0 {
			if got, want := answersOf(h, list), x.answers(list); !same(got, want) {
				t.Fatalf("P19.2 to P19.4: told %+v: %s, want %s", list, tell(got), tell(want))
			}
			return
		}
		for _, next := range from {
			hold(left-1, from, append(list[:len(list):len(list)], next))
		}
	}
	whole := granted(h, 1, 1, "/a", api.WatchKids)
	items := []api.Told{whole, granted(h, 2, 2, "/a", api.WatchNode), event(2, made("/a", "x", 1)), event(3, set("/a", "y", 1, 2), made("/a/b", "", 1)), event(4, gone("/a/b", 0, 1)), marker(3, part(h, 1, 3, "/a", api.WatchKids)), givesUp(1), told(api.ToldGone)}
	hold(4, items, nil)
	hold(5, items[:6], nil)
	hold(5, []api.Told{called(h, 2), called(h, 3), heard(h, 2), heard(h, 3), of(2, 16, called(h, 2))}, nil)
}

// TestTwistedTellings: P19.1 to P19.4, a true telling and its history with any one thing turned, against the second reckoning.
func TestTwistedTellings(t *testing.T) {
	t.Parallel()
	h := longStory()
	list := honest(h)
	for _, stamp := range []int{2, 3, 6, 7, 8, 10} {
		list = append(list, called(h, stamp), heard(h, stamp))
	}
	if a := holdsAgain(t, h, list); a.Check != api.OK {
		t.Fatalf("P19.4: Check of what is true = %d, %d", a.Check, a.CheckedAt)
	}
	seen := map[api.Errno]int{}
	for _, wrong := range twisted(list) {
		seen[holdsAgain(t, h, wrong).Check]++
	}
	for _, wrong := range twisted(h) {
		seen[holdsAgain(t, wrong, list).Check]++
	}
	for _, code := range []api.Errno{api.OK, api.ErrHistory, api.ErrReply, api.ErrTwice, api.ErrOrder, api.ErrEvent, api.ErrMissed, api.ErrPicture, api.ErrMarker} {
		if seen[code] < 3 {
			t.Errorf("the twists come to %d only %d times", code, seen[code])
		}
	}
}

// tellPlaces are those of which tellings by chance speak; some are none.
var tellPlaces = []string{"/", "/", "/a", "/a", "/a/b", "/a/n00000", "/c", "/n00000", "/a.b", "x y", "/a/"}

var tellSessions = []int{16, 16, 16, 5, 32, 1}

func (c chance) op() api.Op {
	o := api.Op{Kind: pick(c, 1, 1, 1, 2, 2, 2, 3, 4, 5, 6, 7), Place: pick(c, tellPlaces...), Version: -1}
	if o.Kind == api.OpMake && c.IntN(3) == 0 {
		o.Flags = pick(c, 1, 2, 3)
		if o.Flags&api.FlagCounted != 0 {
			o.Place = pick(c, "/n", "/a/n")
		}
	}
	if o.Kind <= api.OpSet {
		o.Data = pick(c, "", "x", "y")
	}
	return o
}

// someHistory is one by chance; most of its requests are of sessions that are open, and rise.
func (c chance) someHistory(size int) []api.Entry {
	var all []api.Entry
	newest := map[int]int{}
	view := 1
	for i := range size {
		e := api.Entry{Stamp: i + 1, View: view, Session: pick(c, tellSessions...), Kind: api.EntryRequest}
		switch k := c.IntN(20); {
		case i < 3 || k < 2:
			e.Kind = api.EntryOpen
		case k == 2:
			e.Kind = pick(c, api.EntryClose, api.EntryExpire)
		default:
			newest[e.Session] += pick(c, 1, 1, 1, 1, 1, 1, 1, 1, 1, 1, 2, 2)
			e.Request = newest[e.Session]
			if c.IntN(300) == 0 {
				e.Request = 1 + c.IntN(e.Request)
			}
			for range pick(c, 1, 1, 2, 3) {
				e.Ops = append(e.Ops, c.op())
			}
		}
		view += pick(c, 0, 0, 0, 0, 1, 3)
		all = append(all, e)
	}
	return all
}

// teller tells a client truly of a history.
type teller struct {
	chance
	*truth
	as     api.Told   // the client and its session
	told   []api.Told // of this session
	called int        // how far the history was asked for
	open   []int      // the stamps of the requests that have no reply as yet
	newest int        // the highest id of a watch
}

// next is one more thing that may be told; of no kind, if there is none just now.
func (x *teller) next() api.Told {
	t := x.some()
	t.Client, t.Session, t.Step = x.as.Client, x.as.Session, len(x.told)
	x.told = append(x.told, t)
	return t
}

func (x *teller) some() api.Told {
	switch k := x.IntN(40); {
	case k < 6:
		return x.call()
	case k < 13:
		return x.reply()
	case k < 20:
		return x.grant()
	case k < 34:
		return x.item()
	case k == 34:
		watches := watchesBehind(x.told)
		return givesUp(pick(x.chance, append(watches, api.Watch{Id: 99})...).Id)
	case k == 35 && x.IntN(3) == 0:
		return told(api.ToldGone)
	}
	return told(pick(x.chance, api.ToldWatch, api.ToldBegin, api.ToldBegun, api.ToldEnd))
}

func (x *teller) call() api.Told {
	for x.called < len(x.history) {
		x.called++
		if e := x.history[x.called-1]; e.Kind == api.EntryRequest && e.Session == x.as.Session && !wasTold(x.told, api.ToldCall, e.Request) {
			x.open = append(x.open, e.Stamp)
			return called(x.history, e.Stamp)
		}
	}
	return told(api.ToldBegun)
}

func (x *teller) reply() api.Told {
	if len(x.open) == 0 {
		return told(api.ToldBegun)
	}
	i := x.IntN(len(x.open))
	stamp := x.open[i]
	x.open = slices.Delete(x.open, i, i+1)
	t := called(x.history, stamp)
	t.Kind, t.Ops, t.Reply = api.ToldReply, nil, x.replies[stamp-1]
	t.Stamp = t.Reply.Stamp
	return t
}

func (x *teller) grant() api.Told {
	last := lastBehind(x.told)
	stamp := last + x.IntN(min(6, len(x.history)-last)+1)
	if x.IntN(8) == 0 {
		stamp = x.IntN(len(x.history) + 1)
	}
	s := api.Shot{Stamp: stamp, Place: pick(x.chance, tellPlaces[:9]...), Kind: 1 + x.IntN(3)}
	s.Nodes, _ = x.part(s)
	x.newest++
	t := told(api.ToldWatched)
	t.Watch, t.Part, t.Stamp = api.Watch{Id: x.newest, Place: s.Place, Kind: s.Kind, From: stamp}, api.Part{Id: x.newest, Shot: s}, stamp
	if x.IntN(20) == 0 {
		t.Code = api.ErrFull
	}
	return t
}

func (x *teller) item() api.Told {
	watches, last := watchesBehind(x.told), lastBehind(x.told)
	if x.IntN(6) == 0 && last < len(x.history) {
		item := api.Item{Stamp: last + 1 + x.IntN(min(6, len(x.history)-last)), After: last, Marker: true}
		for _, w := range watches {
			if w.From < item.Stamp {
				s := api.Shot{Stamp: item.Stamp, Place: w.Place, Kind: w.Kind}
				s.Nodes, _ = x.part(s)
				item.Parts = append(item.Parts, api.Part{Id: w.Id, Shot: s})
			}
		}
		if len(item.Parts) > 0 {
			return takes(item)
		}
	}
	for z := last + 1; z <= len(x.history); z++ {
		if changes := x.eventAt(z, watches); len(changes) > 0 {
			return takes(api.Item{Stamp: z, After: last, Changes: changes})
		}
	}
	return told(api.ToldBegun)
}

// telling is what several clients are told, one between the other.
func (c chance) telling(x *truth, size int) []api.Told {
	var tellers []*teller
	for _, as := range []owner{{1, 16}, {2, 16}, {1, 5}, {5, 1}} {
		tellers = append(tellers, &teller{chance: c, truth: x, as: api.Told{Client: as.client, Session: as.session}})
	}
	var all []api.Told
	for range size {
		all = append(all, tellers[min(c.IntN(6), c.IntN(6), len(tellers)-1)].next())
	}
	return all
}

// owner is a client with a session.
type owner struct{ client, session int }

// twistSome turns one thing in a list, wherever it is.
func twistSome[T any](c chance, list []T) []T {
	list = cloned(list)
	switch i := c.IntN(len(list)); c.IntN(8) {
	case 0:
		return slices.Delete(list, i, i+1)
	case 1:
		return slices.Insert(list, i, list[c.IntN(len(list))])
	case 2:
		k := c.IntN(len(list))
		list[i], list[k] = list[k], list[i]
		return list
	default:
		for left := c.IntN(60); !twist(reflect.ValueOf(&list[i]).Elem(), &left); left = c.IntN(60) {
		}
		return list
	}
}

// leavesOut takes some item out of a telling, if there is one.
func (c chance) leavesOut(list []api.Told) []api.Told {
	from := c.IntN(len(list))
	for i := range list {
		if at := (from + i) % len(list); list[at].Kind == api.ToldItem {
			return slices.Delete(cloned(list), at, at+1)
		}
	}
	return list
}

// TestTellings: P19.1 to P19.4, long tellings of histories by chance, true ones and such in which something is turned, against the second reckoning.
func TestTellings(t *testing.T) {
	t.Parallel()
	seen := map[string]int{}
	for seed := range uint64(8000) {
		c := chanceOf(seed, 191)
		h := c.someHistory(4 + c.IntN(40))
		x, ok := truthOf(h)
		if !ok {
			t.Fatalf("seed %d: no history: %s", seed, tell(h))
		}
		list := c.telling(x, 1+c.IntN(80))
		if c.IntN(10) == 0 {
			h = twistSome(c, h)
		}
		for range pick(c, 0, 1, 1, 2, 4, 8) {
			if len(list) > 4 && c.IntN(4) == 0 {
				list = c.leavesOut(list)
			} else if len(list) > 4 {
				list = twistSome(c, list)
			}
		}
		want := holdsAgain(t, h, list)
		if t.Failed() {
			t.Fatalf("seed %d", seed)
		}
		seen[fmt.Sprint("Replies ", want.Reply)]++
		seen[fmt.Sprint("Items ", want.Item)]++
	}
	for _, what := range []string{"Replies 0", "Replies 190", "Replies 191", "Replies 192", "Replies 193", "Items 0", "Items 190", "Items 193", "Items 194", "Items 195", "Items 196", "Items 197"} {
		if seen[what] < 50 {
			t.Errorf("the tellings come to %q only %d times", what, seen[what])
		}
	}
}
