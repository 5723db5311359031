package client_test

import (
	"strings"
	"testing"

	"herald/api"
	"herald/client"
)

// TestExamples: the chapter's table of examples.
func TestExamples(t *testing.T) {
	l := born(t, 2, 3)
	l.ticks(0, asks())
	l.calls(nil, api.ErrClient)
	l.watches("a", 9, api.ErrPlace)
	l.ends(api.ErrClient)
	l.begins(told(api.ToldBegin, 2), 1, opens(2))
	l.takes(1, opened(1, 2, api.OK), told(api.ToldBegun, 2), 1, resumes(2, 1, 0))
	l.watches("/a", api.WatchNode, toldOf(api.ToldWatch, 2, watch(1, "/a", api.WatchNode, 0)))
	l.takes(1, resumed(1, 2, 1, 4, api.OK), 1, watches(2, 1, watch(1, "/a", api.WatchNode, 0)))
	l.takes(1, watched(1, 2, 1, part(1, 5, "/a", api.WatchNode)), toldGranted(2, part(1, 5, "/a", api.WatchNode)), 1, resumes(2, 2, 0, watch(1, "/a", api.WatchNode, 5)))
	l.takes(1, resumed(1, 2, 2, 5, api.OK))
	l.shows(2, 0, part(1, 5, "/a", api.WatchNode))
	first := delivers(1, 2, 2, []int{1}, event(7, 0, made("/a", "x", 1)))
	l.takes(1, first, toldItem(2, event(7, 0, made("/a", "x", 1))), 1, took(2, 2, 7))
	l.takes(1, first, 1, took(2, 2, 7))
	l.takes(1, delivers(1, 2, 2, []int{1}, event(9, 8, set("/a", "y", 1, 1))), 1, took(2, 2, 7))
	l.shows(2, 7, part(1, 7, "/a", api.WatchNode, seen("/a", "x", 0)))
	l.takes(3, elsewhere(2, 3, 1), 3, resumes(2, 3, 7, watch(1, "/a", api.WatchNode, 7)))
	l.takes(1, delivers(1, 2, 3, []int{1}, event(9, 7, set("/a", "y", 1, 1))))
	l.takes(1, delivers(2, 2, 2, []int{1}, event(9, 7, set("/a", "y", 1, 1))))
	l.takes(3, delivers(2, 2, 3, nil, event(9, 7, set("/a", "y", 1, 1))), 3, resumes(2, 4, 7, watch(1, "/a", api.WatchNode, 7)))
	l.ends(told(api.ToldEnd, 2), 3, closes(2))
	l.begins(told(api.ToldBegin, 18), 3, opens(18))
}

// TestNew: P15.1, of every number up to one beyond the edges, and far beyond.
func TestNew(t *testing.T) {
	numbers := append(ends(), 6, 7)
	for _, number := range numbers {
		for _, nodes := range numbers {
			c, code := client.New(number, nodes)
			if number < 1 || number > api.MaxClients || nodes < 1 || nodes > api.MaxPeers {
				if c != nil || code != api.ErrArg {
					t.Errorf("P15.1: New(%d, %d) is %v and says %d", number, nodes, c, code)
				}
				continue
			}
			l := born(t, number, nodes)
			l.shows(0, 0)
			l.ticks(0, asks())
			l.begins(told(api.ToldBegin, number), 1, opens(number))
			l.shows(number, 0)
			l.takes(1, opened(1, number, api.OK), told(api.ToldBegun, number), 1, resumes(number, 1, 0))
			l.calls(nil, toldCall(number, 1), 1, calls(number, 1))
			l.watches("/", api.WatchNode, toldOf(api.ToldWatch, number, watch(1, "/", api.WatchNode, 0)))
		}
	}
}

// TestFirstView: P15.1, the view 1 is known from the beginning on: no other of that number is taken.
func TestFirstView(t *testing.T) {
	for nodes := 1; nodes <= api.MaxPeers; nodes++ {
		l := born(t, 1, nodes)
		want := viewOf(1, 1, 2)
		if nodes == 1 {
			want.Backup = 0
		}
		if got := l.c.Known(); got != want {
			t.Errorf("P15.1: with %d nodes the view is %v, want %v", nodes, got, want)
		}
		l.begins(told(api.ToldBegin, 1), 1, opens(1))
		l.takes(0, tells(1, nodes, 0))
		l.takes(0, tells(0, nodes, 0))
		l.takes(0, tells(2, nodes, 3), nodes, opens(1))
		if got := l.c.Known(); got != viewOf(2, nodes, 3) {
			t.Errorf("P15.8: the view is %v", got)
		}
	}
}

// TestNone: P15.11, of a client that nobody made: only what is asked ahead of the client is told apart.
func TestNone(t *testing.T) {
	long := strings.Repeat("p", api.MaxRaw+1)
	for _, c := range []*client.Client{nil, {}} {
		l := &life{t, c, 100}
		l.begins(api.ErrClient)
		l.calls(nil, api.ErrClient)
		l.calls([]api.Op{gets("/")}, api.ErrClient)
		l.calls(make([]api.Op, api.MaxOps+1), api.ErrLong)
		l.calls([]api.Op{{Kind: -1}, {Data: long}}, api.ErrLong)
		l.calls([]api.Op{{Kind: -1}}, api.ErrArg)
		l.watches("", 0, api.ErrPlace)
		l.watches("/"+long, 1, api.ErrPlace)
		l.watches("/", 0, api.ErrArg)
		l.watches("/", 4, api.ErrArg)
		l.watches("/", 1, api.ErrClient)
		for _, id := range ends() {
			l.unwatches(id, api.ErrClient)
		}
		l.ends(api.ErrClient)
		l.ticks()
		l.shows(0, 0)
		for _, n := range []api.Note{tells(2, 1, 0), opened(1, 1, api.OK), gone(1, 1), delivers(1, 1, 1, nil, event(1, 0, made("/a", "", 1)))} {
			for _, to := range []int{0, 1, 101, 106} {
				m := message(t, 0, to, n)
				l.does("P15.11: Take", quiet(c.Take(m)))
				m.To = 100
				l.does("P15.11: Take", quiet(c.Take(m)))
			}
		}
		l.does("P15.11: Take", quiet(c.Take(api.Message{})))
		l.begins(api.ErrClient)
	}
}
