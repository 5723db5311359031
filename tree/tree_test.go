package tree_test

import (
	"slices"
	"strings"
	"testing"

	"herald/api"
	"herald/tree"
)

const (
	brief   = api.FlagBrief
	counted = api.FlagCounted
)

func maker(at, data string, flags int) api.Op {
	return api.Op{Kind: api.OpMake, Place: at, Data: data, Flags: flags}
}

func setter(at, data string, version int) api.Op {
	return api.Op{Kind: api.OpSet, Place: at, Data: data, Version: version}
}

func dropper(at string, version int) api.Op {
	return api.Op{Kind: api.OpDrop, Place: at, Version: version}
}

func reader(kind int, at string) api.Op {
	return api.Op{Kind: kind, Place: at, Version: -1}
}

func made(at, data string) api.Change { return api.Change{Kind: api.ChangeMade, Place: at, Data: data} }

func set(at, data string, version int) api.Change {
	return api.Change{Kind: api.ChangeSet, Place: at, Data: data, Version: version}
}

func gone(at string, version int) api.Change {
	return api.Change{Kind: api.ChangeGone, Place: at, Version: version}
}

// loaded is the tree of a list that can be loaded.
func loaded(t *testing.T, list ...tree.Full) *tree.Tree {
	t.Helper()
	x, code := tree.Load(list)
	if x == nil || code != api.OK {
		t.Fatalf("P4.8: Load(%+v) = %v, %d", list, x, code)
	}
	return x
}

// plays holds what a request that is not refused answers.
func plays(t *testing.T, x *tree.Tree, session, stamp int, ops []api.Op, results []api.Result, changes []api.Change) {
	t.Helper()
	reply, told := x.Play(session, stamp, ops...)
	if !sameReply(reply, api.Reply{Stamp: stamp, Results: results}) {
		t.Errorf("P4.2, P4.4: Play(%d, %d, %+v) = %+v, want %+v", session, stamp, ops, reply, results)
	}
	if !slices.Equal(told, changes) {
		t.Errorf("P4.2, P4.4: Play(%d, %d, %+v) tells %+v, want %+v", session, stamp, ops, told, changes)
	}
}

// refuses holds what a refused request answers, and that it changes nothing.
func refuses(t *testing.T, x *tree.Tree, session, stamp int, code api.Errno, at int, ops ...api.Op) {
	t.Helper()
	before := x.Nodes()
	reply, told := x.Play(session, stamp, ops...)
	if !sameReply(reply, api.Reply{Stamp: stamp, Code: code, At: at}) || len(told) != 0 {
		t.Errorf("P4.2, P4.3: Play(%d, %d, %.200v) = %+v, %+v, want code %d at %d", session, stamp, ops, reply, told, code, at)
	}
	if after := x.Nodes(); !slices.Equal(after, before) {
		t.Errorf("P4.2: Play(%d, %d, %.200v) was refused, but the nodes became %+v from %+v", session, stamp, ops, after, before)
	}
}

// TestNew: P4.1.
func TestNew(t *testing.T) {
	if all := tree.New().Nodes(); !slices.Equal(all, []tree.Full{{Place: "/"}}) {
		t.Errorf("P4.1: New has %+v", all)
	}
	one, other := tree.New(), tree.New()
	one.Play(1, 1, maker("/a", "", 0))
	if all := other.Nodes(); len(all) != 1 {
		t.Errorf("P4.1: two new trees are one: %+v", all)
	}
}

// TestExamples: the chapter's own.
func TestExamples(t *testing.T) {
	x := tree.New()
	plays(t, x, 5, 1, []api.Op{maker("/a", "x", 0), maker("/a/b", "", 0)},
		[]api.Result{{Place: "/a", Made: 1, Changed: 1}, {Place: "/a/b", Made: 1, Changed: 1}},
		[]api.Change{made("/a", "x"), made("/a/b", "")})
	plays(t, x, 5, 2, []api.Op{setter("/a", "y", -1), setter("/a", "z", 1), reader(api.OpGet, "/a")},
		[]api.Result{{Place: "/a", Version: 1, Made: 1, Changed: 2}, {Place: "/a", Version: 2, Made: 1, Changed: 2}, {Place: "/a", Data: "z", Version: 2, Made: 1, Changed: 2}},
		[]api.Change{set("/a", "y", 1), set("/a", "z", 2)})
	refuses(t, x, 5, 3, api.ErrNotEmpty, 1, setter("/a", "w", -1), dropper("/a", -1))
	plays(t, x, 5, 4, []api.Op{maker("/a/job-", "", counted), maker("/a/job-", "", counted|brief)},
		[]api.Result{{Place: "/a/job-00000", Made: 4, Changed: 4}, {Place: "/a/job-00001", Made: 4, Changed: 4, Owner: 5}},
		[]api.Change{made("/a/job-00000", ""), made("/a/job-00001", "")})
	if all := x.Nodes(); all[1] != (tree.Full{Place: "/a", Data: "z", Version: 2, Made: 1, Changed: 2, Counter: 2}) {
		t.Errorf("P4.4: the parent is %+v", all[1])
	}
	refuses(t, x, 6, 5, api.ErrBrief, 0, maker("/a/job-00001/x", "", 0))
	refuses(t, x, 6, 6, api.ErrExists, 1, maker("/a/job-00002", "", 0), maker("/a/job-", "", counted))
	plays(t, x, 6, 7, []api.Op{reader(api.OpList, "/a")},
		[]api.Result{{Place: "/a", Version: 2, Made: 1, Changed: 2, Kids: []string{"b", "job-00000", "job-00001"}}}, nil)
	parts(t, x, "/a", api.WatchKids, api.Seen{Place: "/a"}, api.Seen{Place: "/a/b"}, api.Seen{Place: "/a/job-00000"}, api.Seen{Place: "/a/job-00001"})
	ends(t, x, 5, gone("/a/job-00001", 0))
	plays(t, x, 6, 8, []api.Op{maker("/a/job-", "", counted)},
		[]api.Result{{Place: "/a/job-00002", Made: 8, Changed: 8}}, []api.Change{made("/a/job-00002", "")})
	refuses(t, x, 6, 9, api.ErrRoot, 0, dropper("/", -1))
	refuses(t, x, 6, 9, api.ErrOp, 0)
	refuses(t, x, 0, 9, api.ErrBrief, 0, maker("/e", "", brief))
	refuses(t, x, 6, 0, api.ErrNumber, 0, reader(api.OpGet, "/"))
	refuses(t, x, 6, 9, api.ErrVersion, 1, reader(api.OpGet, "/"), dropper("/a/b", 1))
}

// ends holds what End tells.
func ends(t *testing.T, x *tree.Tree, session int, changes ...api.Change) {
	t.Helper()
	if told := x.End(session); !slices.Equal(told, changes) {
		t.Errorf("P4.5: End(%d) = %+v, want %+v", session, told, changes)
	}
}

// parts holds what Part tells.
func parts(t *testing.T, x *tree.Tree, at string, kind int, nodes ...api.Seen) {
	t.Helper()
	if part, code := x.Part(at, kind); !slices.Equal(part, nodes) || code != api.OK {
		t.Errorf("P4.6: Part(%q, %d) = %+v, %d, want %+v", at, kind, part, code, nodes)
	}
}

// TestRequestThatMayNotBe: P4.2, the numbers at their edges, how many ops, and which error comes first.
func TestRequestThatMayNotBe(t *testing.T) {
	x := tree.New()
	get := reader(api.OpGet, "/")
	refuses(t, x, 1, 1, api.ErrOp, 0)
	refuses(t, x, 1, 1, api.ErrOp, 0, []api.Op{}...)
	refuses(t, x, 1, 1, api.ErrLong, 0, get, get, get, get, get)
	refuses(t, x, -1, 0, api.ErrLong, 0, make([]api.Op, 5)...)
	refuses(t, x, 1, 1, api.ErrLong, 0, make([]api.Op, 1000)...)
	for _, session := range []int{-1, -1 << 63, 2147483648, 1<<63 - 1} {
		refuses(t, x, session, 1, api.ErrNumber, 0, get)
		refuses(t, x, session, 1, api.ErrNumber, 0)
		refuses(t, x, session, 1, api.ErrNumber, 0, api.Op{})
	}
	for _, stamp := range []int{0, -1, -1 << 63, 2147483648, 1<<63 - 1} {
		refuses(t, x, 1, stamp, api.ErrNumber, 0, get)
		refuses(t, x, 1, stamp, api.ErrNumber, 0)
	}
	for _, session := range []int{0, 1, 2147483647} {
		for _, stamp := range []int{1, 2147483647, 2} {
			plays(t, x, session, stamp, []api.Op{get, get, get, get}, []api.Result{{Place: "/"}, {Place: "/"}, {Place: "/"}, {Place: "/"}}, nil)
		}
	}
}

// TestGreatestNumbers: P4.2 and P4.4, a node that is made and set at the greatest stamp by the greatest session.
func TestGreatestNumbers(t *testing.T) {
	x := tree.New()
	const most = 2147483647
	plays(t, x, most, most, []api.Op{maker("/a", "", brief), setter("/a", "", 0)},
		[]api.Result{{Place: "/a", Made: most, Changed: most, Owner: most}, {Place: "/a", Version: 1, Made: most, Changed: most, Owner: most}},
		[]api.Change{made("/a", ""), set("/a", "", 1)})
	plays(t, x, 1, 1, []api.Op{setter("/a", "", 1)},
		[]api.Result{{Place: "/a", Version: 2, Made: most, Changed: 1, Owner: most}}, []api.Change{set("/a", "", 2)})
	ends(t, x, most, gone("/a", 2))
}

// TestRefusedInTheMidst: P4.2, at each of its ops, and nothing of those ahead of it stays.
func TestRefusedInTheMidst(t *testing.T) {
	x := loaded(t, tree.Full{Place: "/"}, tree.Full{Place: "/a", Data: "x", Version: 3, Counter: 7}, tree.Full{Place: "/b", Owner: 2}, tree.Full{Place: "/c"})
	good := []api.Op{maker("/a/n", "", counted), setter("/a", "y", 3), dropper("/c", 0)}
	for at := range 4 {
		for _, bad := range []struct {
			op   api.Op
			code api.Errno
		}{{reader(api.OpLook, "/z"), api.ErrNoNode}, {maker("/b/c", "", 0), api.ErrBrief}, {api.Op{}, api.ErrOp}, {dropper("/", -1), api.ErrRoot}} {
			refuses(t, x, 1, 1, bad.code, at, slices.Insert(slices.Clone(good), at, bad.op)...)
		}
	}
	refuses(t, x, 1, 1, api.ErrNoNode, 1, dropper("/c", -1), reader(api.OpGet, "/c"))
	refuses(t, x, 1, 1, api.ErrNoNode, 0, reader(api.OpGet, "/d"), maker("/d", "", 0))
}

// TestOnWhatWasMade: P4.2, each op is played on what those ahead of it have made.
func TestOnWhatWasMade(t *testing.T) {
	x := tree.New()
	plays(t, x, 1, 1, []api.Op{maker("/a", "p", 0), setter("/a", "q", 0), reader(api.OpGet, "/a"), dropper("/a", 1)},
		[]api.Result{{Place: "/a", Made: 1, Changed: 1}, {Place: "/a", Version: 1, Made: 1, Changed: 1}, {Place: "/a", Data: "q", Version: 1, Made: 1, Changed: 1}, {Place: "/a"}},
		[]api.Change{made("/a", "p"), set("/a", "q", 1), gone("/a", 1)})
	if all := x.Nodes(); len(all) != 1 {
		t.Errorf("P4.4: a dropped node is still there: %+v", all)
	}
	plays(t, x, 1, 2, []api.Op{maker("/a", "", brief), dropper("/a", -1), maker("/a", "", 0), maker("/a/b", "", 0)},
		[]api.Result{{Place: "/a", Made: 2, Changed: 2, Owner: 1}, {Place: "/a"}, {Place: "/a", Made: 2, Changed: 2}, {Place: "/a/b", Made: 2, Changed: 2}},
		[]api.Change{made("/a", ""), gone("/a", 0), made("/a", ""), made("/a/b", "")})
	ends(t, x, 1)
}

// TestReads: P4.4, what Check, Get, Look and List answer, of a node and of the root, and that they tell no change.
func TestReads(t *testing.T) {
	x := loaded(t, tree.Full{Place: "/", Data: "r", Version: 9, Made: 1, Changed: 8, Counter: 5},
		tree.Full{Place: "/a", Data: "x", Version: 3, Made: 2, Changed: 4}, tree.Full{Place: "/a/b"}, tree.Full{Place: "/a/b/z"}, tree.Full{Place: "/a-b"},
		tree.Full{Place: "/c", Data: "y", Version: 1, Made: 6, Changed: 7, Owner: 8})
	root, a, c := api.Result{Place: "/", Version: 9, Made: 1, Changed: 8}, api.Result{Place: "/a", Version: 3, Made: 2, Changed: 4}, api.Result{Place: "/c", Version: 1, Made: 6, Changed: 7, Owner: 8}
	check := api.Op{Kind: api.OpCheck, Place: "/a", Version: 3}
	plays(t, x, 0, 9, []api.Op{check, reader(api.OpCheck, "/c"), reader(api.OpLook, "/"), reader(api.OpLook, "/c")}, []api.Result{a, c, root, c}, nil)
	root.Data, a.Data, c.Data = "r", "x", "y"
	plays(t, x, 0, 9, []api.Op{reader(api.OpGet, "/"), reader(api.OpGet, "/a"), reader(api.OpGet, "/c")}, []api.Result{root, a, c}, nil)
	root.Data, a.Data, c.Data = "", "", ""
	root.Kids, a.Kids = []string{"a", "a-b", "c"}, []string{"b"}
	plays(t, x, 0, 9, []api.Op{reader(api.OpList, "/"), reader(api.OpList, "/a"), reader(api.OpList, "/c"), reader(api.OpList, "/a/b/z")}, []api.Result{root, a, c, {Place: "/a/b/z"}}, nil)
}

// TestNotLookedAt: P4.3, what a kind of op does not name may be anything.
func TestNotLookedAt(t *testing.T) {
	x := loaded(t, tree.Full{Place: "/"}, tree.Full{Place: "/a"}, tree.Full{Place: "/b"})
	large := strings.Repeat("x", 65)
	for _, number := range []int{-1 << 63, -2, 1, 2, 3, 4, 77, 1<<63 - 1} {
		for session := range 2 {
			for _, op := range []api.Op{
				{Kind: api.OpMake, Place: "/m", Version: number},
				{Kind: api.OpSet, Place: "/a", Version: -1, Flags: number},
				{Kind: api.OpDrop, Place: "/b", Data: large, Flags: number},
				{Kind: api.OpCheck, Place: "/a", Data: large, Flags: number},
				{Kind: api.OpGet, Place: "/a", Data: large, Version: number, Flags: number},
				{Kind: api.OpLook, Place: "/a", Data: large, Version: number, Flags: number},
				{Kind: api.OpList, Place: "/a", Data: large, Version: number, Flags: number},
			} {
				y := loaded(t, x.Nodes()...)
				if reply, _ := y.Play(session, 1, op); reply.Code != api.OK {
					t.Errorf("P4.3: %.150v is refused: %d", op, reply.Code)
				}
			}
		}
	}
}

// TestFlags: P4.3, each flag that there is not, alone and with those that there are.
func TestFlags(t *testing.T) {
	x := tree.New()
	for bit := 2; bit < 64; bit++ {
		for flags := range 4 {
			refuses(t, x, 1, 1, api.ErrOp, 0, maker("/a", "", 1<<bit|flags))
			refuses(t, x, 1, 1, api.ErrOp, 0, maker("?", "", -1<<bit|flags))
		}
	}
}

// TestRoot: the root may be set, read and checked, and is neither made nor dropped, nor brief.
func TestRoot(t *testing.T) {
	x := tree.New()
	plays(t, x, 1, 3, []api.Op{setter("/", "r", 0), reader(api.OpGet, "/")},
		[]api.Result{{Place: "/", Version: 1, Changed: 3}, {Place: "/", Data: "r", Version: 1, Changed: 3}}, []api.Change{set("/", "r", 1)})
	for flags := range 4 {
		refuses(t, x, 1, 4, api.ErrRoot, 0, maker("/", strings.Repeat("x", 65), flags))
	}
	refuses(t, x, 1, 4, api.ErrRoot, 0, dropper("/", 9))
	ends(t, x, 1)
}

// TestCounters: P4.3 and P4.4, a counter never falls, is the parent's own, goes with its node, and ends at MaxCounter.
func TestCounters(t *testing.T) {
	x := tree.New()
	x.Play(1, 1, maker("/a", "", 0), maker("/b", "", 0), maker("/a/n", "", counted), maker("/a/m-", "", counted))
	plays(t, x, 1, 2, []api.Op{dropper("/a/n00000", -1), dropper("/a/m-00001", -1), maker("/a/n", "", counted), maker("/b/n", "", counted)},
		[]api.Result{{Place: "/a/n00000"}, {Place: "/a/m-00001"}, {Place: "/a/n00002", Made: 2, Changed: 2}, {Place: "/b/n00000", Made: 2, Changed: 2}},
		[]api.Change{gone("/a/n00000", 0), gone("/a/m-00001", 0), made("/a/n00002", ""), made("/b/n00000", "")})
	x.Play(1, 3, dropper("/a/n00002", -1), dropper("/a", -1), maker("/a", "", 0))
	plays(t, x, 1, 4, []api.Op{maker("/a/n", "", counted)}, []api.Result{{Place: "/a/n00000", Made: 4, Changed: 4}}, []api.Change{made("/a/n00000", "")})

	y := loaded(t, tree.Full{Place: "/", Counter: 99998})
	plays(t, y, 1, 1, []api.Op{maker("/n", "", counted), maker("/abcdefghijk", "", counted)},
		[]api.Result{{Place: "/n99998", Made: 1, Changed: 1}, {Place: "/abcdefghijk99999", Made: 1, Changed: 1}}, []api.Change{made("/n99998", ""), made("/abcdefghijk99999", "")})
	refuses(t, y, 1, 1, api.ErrFull, 0, maker("/n", "", counted))
	refuses(t, y, 1, 1, api.ErrFull, 2, maker("/o", "", 0), dropper("/n99998", -1), maker("/n", "", counted))
	if all := y.Nodes(); all[0].Counter != 100000 {
		t.Errorf("P4.4: the root is %+v", all[0])
	}
}

// TestVersions: P4.3 and P4.4, a version at its end.
func TestVersions(t *testing.T) {
	x := loaded(t, tree.Full{Place: "/"}, tree.Full{Place: "/a", Version: 2147483646})
	plays(t, x, 1, 1, []api.Op{setter("/a", "z", 2147483646)}, []api.Result{{Place: "/a", Version: 2147483647, Changed: 1}}, []api.Change{set("/a", "z", 2147483647)})
	refuses(t, x, 1, 2, api.ErrFull, 0, setter("/a", "", -1))
	refuses(t, x, 1, 2, api.ErrFull, 0, setter("/a", "", 2147483647))
	refuses(t, x, 1, 2, api.ErrVersion, 0, setter("/a", "", 2147483646))
	plays(t, x, 1, 2, []api.Op{dropper("/a", 2147483647)}, []api.Result{{Place: "/a"}}, []api.Change{gone("/a", 2147483647)})
}

// TestFull: P4.3 and P4.12, MaxNodes nodes and one more.
func TestFull(t *testing.T) {
	x := tree.New()
	for i := range api.MaxNodes - 1 {
		if reply, _ := x.Play(1, i+1, maker("/n", "", counted|i%2)); reply.Code != api.OK {
			t.Fatalf("P4.3: node %d of a tree is refused: %d", i+2, reply.Code)
		}
	}
	refuses(t, x, 1, 99, api.ErrFull, 0, maker("/n", "", counted))
	refuses(t, x, 1, 99, api.ErrFull, 0, maker("/m", "", 0))
	refuses(t, x, 1, 99, api.ErrExists, 0, maker("/n00005", "", 0))
	refuses(t, x, 1, 99, api.ErrBrief, 0, maker("/n00001/a", "", 0))
	refuses(t, x, 1, 99, api.ErrFull, 2, dropper("/n00005", -1), maker("/n", "", counted), maker("/m", "", 0))
	plays(t, x, 1, 99, []api.Op{dropper("/n00005", -1), maker("/m", "", 0)}, []api.Result{{Place: "/n00005"}, {Place: "/m", Made: 99, Changed: 99}}, []api.Change{gone("/n00005", 0), made("/m", "")})
	if all := x.Nodes(); len(all) != 64 || all[0].Counter != 63 {
		t.Errorf("P4.12: %d nodes, the root %+v", len(all), all[0])
	}
}

// TestDataAndPlacesAtTheirEnds: P4.3, the longest data and places, and one byte or name more.
func TestDataAndPlacesAtTheirEnds(t *testing.T) {
	x := tree.New()
	most, large := strings.Repeat("\xff", 64), strings.Repeat("x", 65)
	at := ""
	for range 6 {
		refuses(t, x, 0, 1, api.ErrLarge, 0, maker(at+"/a", large, 0))
		refuses(t, x, 0, 1, api.ErrPlace, 0, maker(at+"/abcdefghijklmnopq", most, 0))
		refuses(t, x, 0, 1, api.ErrPlace, 0, maker(at+"/abcdefghijkl", most, counted))
		at += "/abcdefghijklmnop"
		plays(t, x, 0, 1, []api.Op{maker(at, most, 0), setter(at, most, 0)},
			[]api.Result{{Place: at, Made: 1, Changed: 1}, {Place: at, Version: 1, Made: 1, Changed: 1}}, []api.Change{made(at, most), set(at, most, 1)})
		refuses(t, x, 0, 1, api.ErrLarge, 0, setter(at, large, 9))
	}
	for kind := api.OpMake; kind <= api.OpList; kind++ {
		for _, wrong := range []string{at + "/a", at + "x", strings.Repeat("/", 103), strings.Repeat("/a", 60000), "", "a", "/a/", "//", "/.", "/a/..", "/\x00", "/\xff"} {
			refuses(t, x, 0, 1, api.ErrPlace, 0, api.Op{Kind: kind, Place: wrong, Data: large})
		}
	}
}

// TestEnd: P4.5, the brief nodes of one session, in the order of their places, with their versions.
func TestEnd(t *testing.T) {
	list := []tree.Full{{Place: "/"}, {Place: "/a", Counter: 3}, {Place: "/a/z", Data: "x", Version: 4, Owner: 7}, {Place: "/a-", Owner: 7}, {Place: "/b", Owner: 8}, {Place: "/c"}, {Place: "/c/c", Version: 2, Owner: 7}}
	x := loaded(t, list...)
	for _, session := range []int{0, -1, -7, -1 << 63, 6, 2147483648, 1<<63 - 1} {
		ends(t, x, session)
	}
	if all := x.Nodes(); !slices.Equal(all, list) {
		t.Errorf("P4.5: nothing ended, but the nodes became %+v", all)
	}
	ends(t, x, 7, gone("/a/z", 4), gone("/a-", 0), gone("/c/c", 2))
	if all := x.Nodes(); !slices.Equal(all, []tree.Full{list[0], list[1], list[4], list[5]}) {
		t.Errorf("P4.5: behind End(7) there is %+v", all)
	}
	ends(t, x, 7)
	plays(t, x, 7, 9, []api.Op{maker("/a/z", "", brief)}, []api.Result{{Place: "/a/z", Made: 9, Changed: 9, Owner: 7}}, []api.Change{made("/a/z", "")})
	ends(t, x, 8, gone("/b", 0))
	ends(t, x, 7, gone("/a/z", 0))
}

// TestPart: P4.6, each kind at places that are there and at others, and what is refused, in its order.
func TestPart(t *testing.T) {
	x := loaded(t, tree.Full{Place: "/", Data: "r", Version: 1}, tree.Full{Place: "/a", Data: "x", Version: 2}, tree.Full{Place: "/a/b", Data: "y", Owner: 3}, tree.Full{Place: "/a/c"}, tree.Full{Place: "/a/c/d"}, tree.Full{Place: "/a-b", Data: "z"})
	root, a, b, c, d, e := api.Seen{Place: "/", Data: "r", Version: 1}, api.Seen{Place: "/a", Data: "x", Version: 2}, api.Seen{Place: "/a/b", Data: "y"}, api.Seen{Place: "/a/c"}, api.Seen{Place: "/a/c/d"}, api.Seen{Place: "/a-b", Data: "z"}
	parts(t, x, "/", api.WatchNode, root)
	parts(t, x, "/a", api.WatchNode, a)
	parts(t, x, "/", api.WatchSubtree, root, a, b, c, d, e)
	parts(t, x, "/a", api.WatchSubtree, a, b, c, d)
	parts(t, x, "/a/b", api.WatchSubtree, b)
	parts(t, x, "/", api.WatchKids, api.Seen{Place: "/"}, api.Seen{Place: "/a"}, api.Seen{Place: "/a-b"})
	parts(t, x, "/a", api.WatchKids, api.Seen{Place: "/a"}, api.Seen{Place: "/a/b"}, c)
	parts(t, x, "/a/b", api.WatchKids, api.Seen{Place: "/a/b"})
	for kind := api.WatchNode; kind <= api.WatchSubtree; kind++ {
		parts(t, x, "/z", kind)
		parts(t, x, "/a/b/c", kind)
	}
	for _, kind := range []int{0, -1, 4, -1 << 63, 1<<63 - 1} {
		noPart(t, x, "/a", kind, api.ErrArg)
		noPart(t, x, "/z", kind, api.ErrArg)
		noPart(t, x, "a", kind, api.ErrPlace)
	}
	for _, wrong := range []string{"", "a", "/a/", "/a/b/c/d/e/f/g", strings.Repeat("/", 103), strings.Repeat("/a", 60000)} {
		noPart(t, x, wrong, api.WatchNode, api.ErrPlace)
	}
}

// noPart holds that Part refuses.
func noPart(t *testing.T, x *tree.Tree, at string, kind int, want api.Errno) {
	t.Helper()
	if part, code := x.Part(at, kind); len(part) != 0 || code != want {
		t.Errorf("P4.6: Part(%.100q, %d) = %+v, %d, want %d", at, kind, part, code, want)
	}
}

// TestNobodysTree: P4.10, a nil and a zero tree, ahead of all else.
func TestNobodysTree(t *testing.T) {
	for _, x := range []*tree.Tree{nil, {}} {
		for range 2 {
			for _, stamp := range []int{1, 0, -1, 2147483648} {
				refuses(t, x, 1, stamp, api.ErrArg, 0, maker("/a", "", 0))
				refuses(t, x, -1, stamp, api.ErrArg, 0)
				refuses(t, x, 1, stamp, api.ErrArg, 0, make([]api.Op, 5)...)
				refuses(t, x, 1, stamp, api.ErrArg, 0, reader(api.OpGet, "/"))
			}
			ends(t, x, 1)
			ends(t, x, -1)
			noPart(t, x, "/", api.WatchSubtree, api.ErrArg)
			noPart(t, x, "?", 0, api.ErrArg)
			if all := x.Nodes(); len(all) != 0 {
				t.Errorf("P4.10: there are nodes: %+v", all)
			}
		}
	}
}
