package audit_test

import (
	"slices"
	"strings"
	"testing"

	"herald/api"
	"herald/audit"
)

// resultOf is a result without kids and data.
func resultOf(at string, version, made, changed, owner int) api.Result {
	return api.Result{Place: at, Version: version, Made: made, Changed: changed, Owner: owner}
}

// models holds what Model answers.
func models(t *testing.T, history []api.Entry, want ...api.Reply) {
	t.Helper()
	if replies, code := audit.Model(history); code != api.OK || !same(replies, want) {
		t.Errorf("P19.1: Model(%s) = %s, %d, want %s", tell(history), tell(replies), code, tell(want))
	}
}

// refusesHistory holds that no call takes a history, whatever was told; what offends itself is told first.
func refusesHistory(t *testing.T, why string, history []api.Entry) {
	t.Helper()
	if replies, code := audit.Model(history); code != api.ErrHistory || len(replies) > 0 {
		t.Errorf("P19.1: %s: Model = %s, %d", why, tell(replies), code)
	}
	lists := [][]api.Told{nil, {told(api.ToldReply)}, {told(api.ToldItem)}, {told(api.ToldBegin), told(api.ToldReply), told(api.ToldItem)}}
	for name, look := range faces() {
		for _, list := range lists {
			if code, at := look(history, list); code != api.ErrHistory || at != 0 {
				t.Errorf("P19.2: %s: %s of %d told things = %d, %d", why, name, len(list), code, at)
			}
		}
	}
}

// TestModelExamples: the chapter's table.
func TestModelExamples(t *testing.T) {
	models(t, shortStory(), api.Reply{Stamp: 1}, api.Reply{Stamp: 2, Results: []api.Result{resultOf("/a", 0, 2, 2, 0)}}, api.Reply{Stamp: 3, Results: []api.Result{resultOf("/a", 1, 2, 3, 0)}})
	refusesHistory(t, "the entries 2 and 3 alone", shortStory()[1:])
	models(t, nil)
	models(t, []api.Entry{})
}

// TestModelReplies: P19.1, every kind of entry, sessions that are none, requests that are refused, and what was asked already.
func TestModelReplies(t *testing.T) {
	made := api.Reply{Stamp: 2, Results: []api.Result{resultOf("/a", 0, 2, 2, 0), {Place: "/a", Data: "x", Made: 2, Changed: 2}}}
	listed := resultOf("/", 0, 0, 0, 0)
	listed.Kids = []string{"a", "e00000"}
	models(t, story(
		opens(3),
		asks(3, 1, makes("/a", "x"), gets("/a")),
		asks(3, 1, makes("/b", "")),
		asks(3, 2, sets("/a", "y"), makes("/a", "")),
		asks(3, 1, gets("/a")),
		asks(4, 1, gets("/a")),
		asks(3, 5, api.Op{Kind: api.OpMake, Place: "/e", Flags: api.FlagBrief | api.FlagCounted}, lists("/")),
		asks(3, 6),
		opens(19),
		opens(3), closes(3), expires(3),
		opens(19),
		asks(19, 1, gets("/e00000")),
		expires(19),
		opens(19), closes(19),
		asks(19, 2, gets("/a")),
		opens(20), closes(20),
	),
		api.Reply{Stamp: 1},
		made,
		made,
		api.Reply{Stamp: 4, Code: api.ErrExists, At: 1},
		api.Reply{Stamp: 5, Code: api.ErrRequest},
		api.Reply{Stamp: 6, Code: api.ErrSession},
		api.Reply{Stamp: 7, Results: []api.Result{resultOf("/e00000", 0, 7, 7, 3), listed}},
		api.Reply{Stamp: 8, Code: api.ErrOp},
		api.Reply{Stamp: 9},
		api.Reply{Stamp: 10, Code: api.ErrOld}, api.Reply{Stamp: 11, Code: api.ErrSession}, api.Reply{Stamp: 12, Code: api.ErrSession},
		api.Reply{Stamp: 13},
		api.Reply{Stamp: 14, Code: api.ErrNoNode},
		api.Reply{Stamp: 15},
		api.Reply{Stamp: 16, Code: api.ErrOld}, api.Reply{Stamp: 17, Code: api.ErrSession},
		api.Reply{Stamp: 18, Code: api.ErrSession},
		api.Reply{Stamp: 19}, api.Reply{Stamp: 20},
	)
}

// withStamps is the long story with other stamps at its beginning.
func withStamps(stamps ...int) []api.Entry {
	history := longStory()[:len(stamps)]
	for i, z := range stamps {
		history[i].Stamp = z
	}
	return history
}

// withViews is it with other views at its beginning.
func withViews(views ...int) []api.Entry {
	history := longStory()[:len(views)]
	for i, v := range views {
		history[i].View = v
	}
	return history
}

// TestModelStamps: P19.1, stamps that do not begin at 1, skip, stand twice or fall.
func TestModelStamps(t *testing.T) {
	for _, stamps := range [][]int{{0}, {2}, {-1}, {3}, {0, 1, 2}, {2, 3, 4}, {1, 3}, {1, 1}, {1, 2, 2}, {1, 2, 4}, {1, 2, 1}, {1, 2, 3, 2}, {1, 0}, {3, 2, 1}, {1, 2, 3, 4, 6}, {1, 2, 3, 4, 4, 5}} {
		refusesHistory(t, "the stamps "+tell(stamps), withStamps(stamps...))
	}
	for _, z := range ends() {
		if z != 1 {
			refusesHistory(t, "the first stamp "+tell(z), withStamps(z))
		}
		if z != 3 {
			refusesHistory(t, "the third stamp "+tell(z), withStamps(1, 2, z))
		}
	}
	models(t, withStamps(1), api.Reply{Stamp: 1})
}

// TestModelViews: P19.1, views that fall, rise and stay.
func TestModelViews(t *testing.T) {
	for _, views := range [][]int{{2, 1}, {1, 2, 1}, {1, 3, 2}, {1, 2, 3, 3, 2}, {5, 5, 4, 6}, {most, 1}, {1, most, most - 1}, {1, 0}, {0}, {0, 1}, {-1, 1}, {1, most + 1}, {most + 1, most + 1}, {1, 1, 2, 1, 2}} {
		refusesHistory(t, "the views "+tell(views), withViews(views...))
	}
	for _, views := range [][]int{{1, 1, 1}, {1, 2, 3}, {7, 7, 9, 9, 9, 100}, {most, most}, {1, most}} {
		replies, code := audit.Model(withViews(views...))
		want, _ := audit.Model(longStory()[:len(views)])
		if code != api.OK || !same(replies, want) {
			t.Errorf("P19.1: with the views %v Model = %s, %d", views, tell(replies), code)
		}
		for name, look := range faces() {
			if code, at := look(withViews(views...), nil); code != api.OK || at != 0 {
				t.Errorf("P19.2: with the views %v %s = %d, %d", views, name, code, at)
			}
		}
	}
}

// TestModelRefusedEntries: P19.1, what the machine refuses, with each of its errors, at each place of a history.
func TestModelRefusedEntries(t *testing.T) {
	turns := map[string]func(*api.Entry){
		"five ops": func(e *api.Entry) {
			e.Kind, e.Request, e.Ops = api.EntryRequest, 1, slices.Repeat([]api.Op{gets("/")}, 5)
		},
		"an opening with ops":     func(e *api.Entry) { e.Kind, e.Request, e.Ops = api.EntryOpen, 0, []api.Op{gets("/")} },
		"a closing with ops":      func(e *api.Entry) { e.Kind, e.Request, e.Ops = api.EntryClose, 0, []api.Op{gets("/")} },
		"an expiring with ops":    func(e *api.Entry) { e.Kind, e.Request, e.Ops = api.EntryExpire, 0, []api.Op{gets("/")} },
		"an opening of a request": func(e *api.Entry) { e.Kind, e.Request, e.Ops = api.EntryOpen, 1, nil },
		"a closing of a request":  func(e *api.Entry) { e.Kind, e.Request, e.Ops = api.EntryClose, -1, nil },
		"an expiring of one":      func(e *api.Entry) { e.Kind, e.Request, e.Ops = api.EntryExpire, most, nil },
	}
	for _, n := range ends() {
		if n < 1 || n > most {
			turns["the view "+tell(n)] = func(e *api.Entry) { e.View = n }
			turns["the session "+tell(n)] = func(e *api.Entry) { e.Session = n }
			turns["the request "+tell(n)] = func(e *api.Entry) { e.Kind, e.Request = api.EntryRequest, n }
		}
		if n < 1 || n > 4 {
			turns["the kind "+tell(n)] = func(e *api.Entry) { e.Kind = n }
		}
	}
	for why, turn := range turns {
		for i := range longStory() {
			history := longStory()
			turn(&history[i])
			refusesHistory(t, why, history)
		}
	}
}

// TestModelTakesAnyOps: P19.1, what the tree refuses is in the history all the same.
func TestModelTakesAnyOps(t *testing.T) {
	for _, op := range []api.Op{{}, {Kind: 8}, {Kind: -1, Version: -5}, makes("a", ""), makes("/", ""), makes("/a", strings.Repeat("d", 65)), sets("/x", strings.Repeat("d", 1000)), gets(strings.Repeat("/a", 500)), {Kind: api.OpMake, Place: "/a", Flags: -1}} {
		replies, code := audit.Model(story(opens(1), asks(1, most, op)))
		if code != api.OK || len(replies) != 2 || replies[1].Code == api.OK || replies[1].Stamp != 2 {
			t.Errorf("P19.1: Model with the op %+v = %s, %d", op, tell(replies), code)
		}
	}
}
