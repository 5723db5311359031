package audit_test

import (
	"errors"
	"testing"

	"herald/api"
	"herald/audit"
)

// sees holds what client 1 sees in its session 16 behind what it was told.
func sees(t *testing.T, history []api.Entry, told []api.Told, want map[int]api.Shot) {
	t.Helper()
	pictures := audit.Pictures(history, told, 1, 16)
	if len(pictures) != len(want) {
		t.Errorf("P19.3: behind %d told things %s is seen, want %s", len(told), tell(pictures), tell(want))
	}
	for id, shot := range want {
		if !same(pictures[id], shot) {
			t.Errorf("P19.3: behind %d told things %s is seen of the watch %d, want %s", len(told), tell(pictures[id]), id, tell(shot))
		}
	}
}

// TestPictures: P19.3, pictures are turned by events and markers at stamps above their own, and stay else; what is given up is not seen any more.
func TestPictures(t *testing.T) {
	h := longStory()
	list := honest(h)
	at := func(stamp int, place string, kind int) api.Shot { return shotAt(h, stamp, place, kind) }
	for count, want := range []map[int]api.Shot{
		{},
		{1: at(0, "/", 2)},
		{1: at(0, "/", 2), 3: at(1, "/a", 3)},
		{1: at(2, "/", 2), 3: at(2, "/a", 3)},
		{1: at(2, "/", 2), 3: at(2, "/a", 3), 2: at(3, "/a/b", 1)},
		{1: at(3, "/", 2), 3: at(3, "/a", 3), 2: at(3, "/a/b", 1)},
		{1: at(6, "/", 2), 3: at(6, "/a", 3), 2: at(6, "/a/b", 1)},
		{3: at(6, "/a", 3), 2: at(6, "/a/b", 1)},
		{3: at(6, "/a", 3), 2: at(6, "/a/b", 1), 4: at(7, "/c", 2)},
		{3: at(8, "/a", 3), 2: at(8, "/a/b", 1), 4: at(8, "/c", 2)},
		{3: at(9, "/a", 3), 2: at(9, "/a/b", 1), 4: at(9, "/c", 2)},
		{3: at(9, "/a", 3), 2: at(9, "/a/b", 1), 4: at(9, "/c", 2), 1: at(11, "/", 1)},
		{3: at(12, "/a", 3), 2: at(12, "/a/b", 1), 4: at(12, "/c", 2), 1: at(12, "/", 1)},
		{},
	} {
		sees(t, h, list[:count], want)
	}
	ahead := []api.Told{granted(h, 1, 1, "/a", api.WatchSubtree), granted(h, 2, 5, "/a", api.WatchSubtree), event(2, made("/a", "x", 1))}
	sees(t, h, ahead, map[int]api.Shot{1: at(2, "/a", 3), 2: at(5, "/a", 3)})
	ahead = append(ahead, marker(4, part(h, 1, 4, "/a", api.WatchSubtree)))
	sees(t, h, ahead, map[int]api.Shot{1: at(4, "/a", 3), 2: at(5, "/a", 3)})
}

// TestPicturesThatStay: P19.3, a picture that missed something, as its watch was granted late, is folded as far as that can be, and else stays as it was, at the new stamp.
func TestPicturesThatStay(t *testing.T) {
	h := longStory()
	ahead := []api.Told{granted(h, 1, 1, "/c", api.WatchNode), event(2, made("/c", "", 1)), event(5, set("/c", "1", 1, 1)), granted(h, 2, 1, "/a/b", api.WatchNode), granted(h, 3, 2, "/a", api.WatchKids)}
	none := api.Shot{Stamp: 1, Place: "/a/b", Kind: api.WatchNode}
	bare := api.Shot{Stamp: 2, Place: "/a", Kind: api.WatchKids, Nodes: []api.Seen{{Place: "/a"}}}
	c := shotAt(h, 5, "/c", api.WatchNode)
	sees(t, h, ahead, map[int]api.Shot{1: c, 2: none, 3: bare})
	ahead = append(ahead, event(6, set("/a/b", "q", 1, 2)))
	none.Stamp, bare.Stamp, c.Stamp = 6, 6, 6
	sees(t, h, ahead, map[int]api.Shot{1: c, 2: none, 3: bare})
	ahead = append(ahead, event(8, gone("/a/b", 1, 2, 3), made("/a/b", "r", 2, 3), set("/a/b", "s", 1, 2)))
	none.Stamp, bare.Stamp, c.Stamp = 8, 8, 8
	sees(t, h, ahead, map[int]api.Shot{1: c, 2: none, 3: bare})
	ahead = append(ahead, marker(11, part(h, 1, 11, "/c", api.WatchNode), part(h, 2, 11, "/a/b", api.WatchNode), part(h, 3, 11, "/a", api.WatchKids)))
	sees(t, h, ahead, map[int]api.Shot{1: shotAt(h, 11, "/c", 1), 2: shotAt(h, 11, "/a/b", 1), 3: shotAt(h, 11, "/a", 2)})
}

// TestPicturesOfTellings: P19.3, along true tellings each picture is the model's part, at the stamp of the last item that came behind its granting.
func TestPicturesOfTellings(t *testing.T) {
	t.Parallel()
	turned := 0
	for seed := range uint64(600) {
		c := chanceOf(seed, 193)
		h := c.someHistory(4 + c.IntN(40))
		x, _ := truthOf(h)
		list := c.telling(x, 1+c.IntN(80))
		if code, _ := audit.Items(h, list); code != api.OK {
			t.Fatalf("P19.3: seed %d: Items of what is true says %d", seed, code)
		}
		mine := sessionOf(list, told(0))
		pictures, watches := audit.Pictures(h, list, 1, 16), watchesBehind(mine)
		if len(pictures) != len(watches) {
			t.Errorf("P19.3: seed %d: %s is seen of %s", seed, tell(pictures), tell(watches))
		}
		for _, w := range watches {
			p := pictures[w.Id]
			stamp, isLate := stampOf(mine, w)
			if p.Place != w.Place || p.Kind != w.Kind || p.Stamp != stamp || !isLate && !x.isPart(p) {
				t.Errorf("P19.3: seed %d: of %+v %s is seen, should be at %d", seed, w, tell(p), stamp)
			}
			if p.Stamp > w.From && !isLate {
				turned++
			}
		}
	}
	if turned < 200 {
		t.Errorf("only %d pictures were turned", turned)
	}
}

// stampOf is the stamp that a picture should have, and whether its watch was granted late, below the last stamp taken.
func stampOf(told []api.Told, w api.Watch) (stamp int, isLate bool) {
	for i, t := range told {
		if t.Kind == api.ToldWatched && t.Code == api.OK && t.Watch.Id == w.Id {
			stamp, isLate = w.From, w.From < lastBehind(told[:i])
		}
		if t.Kind == api.ToldItem {
			stamp = max(stamp, t.Item.Stamp)
		}
	}
	return stamp, isLate
}

// TestOtherPanics: W1, whatever a look might give up with, the answer is no yes.
func TestOtherPanics(t *testing.T) {
	for _, found := range []any{nil, "text", 7, errors.New("other"), api.ToldItem} {
		is(t, "what is answered to a panic", audit.OfPanic(found), api.ErrHistory)
	}
	is(t, "what is answered to an offence", audit.OfPanic(api.ErrMissed), api.ErrMissed)
}
