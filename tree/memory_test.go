package tree_test

import (
	"slices"
	"strings"
	"sync"
	"testing"
	"unsafe"

	"herald/api"
	"herald/tree"
)

// answers is what a tree tells to one round of calls.
type answers struct {
	reply   api.Reply
	changes []api.Change
	ended   []api.Change
	parts   [3][]api.Seen
	nodes   []tree.Full
}

// busyOps are requests with ops of every kind, for what grown makes.
func busyOps() [][]api.Op {
	return [][]api.Op{
		{maker("/a/new", "made", brief), setter("/a", "set", -1), dropper("/f/g", -1), reader(api.OpGet, "/a")},
		{reader(api.OpList, "/"), reader(api.OpList, "/"), reader(api.OpLook, "/c"), reader(api.OpCheck, "/c")},
		{maker("/a/m", "once more", counted), setter("/", "root", -1), reader(api.OpList, "/a"), reader(api.OpList, "/a")},
	}
}

func askAll(x *tree.Tree, ops []api.Op) answers {
	var a answers
	a.reply, a.changes = x.Play(5, 9, ops...)
	for i := range a.parts {
		a.parts[i], _ = x.Part("/", i+1)
	}
	a.ended = x.End(5)
	a.nodes = x.Nodes()
	return a
}

// lists are the stretches of memory in which an answer's lists lie, spare room too.
func (a answers) lists() []stretch {
	all := []stretch{listAt(a.reply.Results), listAt(a.changes), listAt(a.ended), listAt(a.nodes)}
	for _, r := range a.reply.Results {
		all = append(all, listAt(r.Kids))
	}
	for _, part := range a.parts {
		all = append(all, listAt(part))
	}
	return all
}

// texts are those in which an answer's texts lie.
func (a answers) texts() []stretch {
	var all []stretch
	for _, r := range a.reply.Results {
		all = append(all, textsAt(r.Place, r.Data)...)
		all = append(all, textsAt(r.Kids...)...)
	}
	for _, c := range slices.Concat(a.changes, a.ended) {
		all = append(all, textsAt(c.Place, c.Data)...)
	}
	for _, s := range slices.Concat(a.parts[:]...) {
		all = append(all, textsAt(s.Place, s.Data)...)
	}
	return append(all, textsOfNodes(a.nodes)...)
}

func textsOfNodes(list []tree.Full) []stretch {
	var all []stretch
	for _, n := range list {
		all = append(all, textsAt(n.Place, n.Data)...)
	}
	return all
}

func textsOfOps(ops []api.Op) []stretch {
	var all []stretch
	for _, op := range ops {
		all = append(all, textsAt(op.Place, op.Data)...)
	}
	return all
}

type stretch struct{ begin, end uintptr }

func listAt[T any](list []T) stretch {
	begin := uintptr(unsafe.Pointer(unsafe.SliceData(list)))
	return stretch{begin, begin + uintptr(cap(list))*unsafe.Sizeof(*new(T))}
}

func textsAt(texts ...string) []stretch {
	var all []stretch
	for _, text := range texts {
		begin := uintptr(unsafe.Pointer(unsafe.StringData(text)))
		all = append(all, stretch{begin, begin + uintptr(len(text))})
	}
	return all
}

// meet tells whether two of the stretches have a byte in common.
func meet(all []stretch) bool {
	for i, one := range all {
		for _, other := range all[:i] {
			if one.begin < other.end && other.begin < one.end {
				return true
			}
		}
	}
	return false
}

// ownOps are ops with texts of their own, in a list with room behind its end in which other ops stand.
func ownOps(ops []api.Op) []api.Op {
	var all []api.Op
	for _, op := range slices.Concat(ops, ops) {
		op.Place, op.Data = strings.Clone(op.Place), strings.Clone(op.Data)
		all = append(all, op)
	}
	return all[:len(ops)]
}

// TestAnswersAreNew: P4.11, no answer has memory in common with another one, nor with what was handed in; Kids of no two Results have any.
func TestAnswersAreNew(t *testing.T) {
	for _, ops := range busyOps() {
		list := loaded(t, grown(20)...).Nodes()
		x, own := loaded(t, list...), ownOps(ops)
		first := askAll(x, own)
		second := askAll(x, []api.Op{reader(api.OpList, "/"), reader(api.OpList, "/a"), reader(api.OpGet, "/a"), setter("/a", "again", -1)})
		if first.reply.Code != api.OK || second.reply.Code != api.OK {
			t.Fatalf("P4.2: %+v, %+v", first.reply, second.reply)
		}
		if meet(slices.Concat(first.lists(), second.lists(), []stretch{listAt(own), listAt(list)})) {
			t.Errorf("P4.11: lists of two answers, or of an answer and what was handed in, share memory: %+v", ops)
		}
		if meet(slices.Concat(first.texts(), second.texts(), textsOfOps(own), textsOfNodes(list))) {
			t.Errorf("P4.11: texts of two answers, or of an answer and what was handed in, share memory: %+v", ops)
		}
	}
}

// scribble writes over a list and the room behind it.
func scribble[T any](list []T, junk T) {
	list = list[:cap(list)]
	for i := range list {
		list[i] = junk
	}
}

// TestScribbledAnswers: P4.11, whatever a caller writes into what he was told, the tree tells the same.
func TestScribbledAnswers(t *testing.T) {
	for _, ops := range busyOps() {
		x, y := loaded(t, grown(20)...), loaded(t, grown(20)...)
		for range 3 {
			told := askAll(x, ops)
			for _, r := range told.reply.Results {
				scribble(r.Kids, "junk")
			}
			scribble(told.reply.Results, api.Result{Place: "junk"})
			scribble(told.changes, api.Change{Kind: 9})
			scribble(told.ended, api.Change{Kind: 9})
			scribble(told.nodes, tree.Full{Place: "junk"})
			for _, part := range told.parts {
				scribble(part, api.Seen{Place: "junk"})
			}
			askAll(y, ops)
			if !slices.Equal(x.Nodes(), y.Nodes()) {
				t.Fatalf("P4.11: scribbling made %+v of %+v", x.Nodes(), y.Nodes())
			}
		}
	}
}

// TestHandedInStays: P4.11, ops and nodes that are handed in are not changed, nor the room behind their lists, and not kept.
func TestHandedInStays(t *testing.T) {
	for _, ops := range busyOps() {
		list := grown(21)
		x, code := tree.Load(list[:20])
		if code != api.OK || !slices.Equal(list, grown(21)) {
			t.Fatalf("P4.11: Load made %+v of the list, %d", list, code)
		}
		own := ownOps(ops)
		whole := slices.Clone(own[:cap(own)])
		x.Play(5, 9, own...)
		if !slices.Equal(own[:cap(own)], whole) {
			t.Errorf("P4.11: Play made %+v of %+v", own[:cap(own)], whole)
		}
		before := x.Nodes()
		scribble(list, tree.Full{Place: "junk"})
		scribble(own, api.Op{Place: "junk"})
		if !slices.Equal(x.Nodes(), before) {
			t.Errorf("P4.11: what was handed in was kept: %+v became %+v", before, x.Nodes())
		}
	}
}

// TestTextsAreNotKept: P4.11, a tree keeps no text of a caller: bytes that a text was made of may change.
func TestTextsAreNotKept(t *testing.T) {
	loose := func(text string) ([]byte, string) {
		room := []byte(text)
		return room, unsafe.String(unsafe.SliceData(room), len(room))
	}
	atRoom, at := loose("/a")
	dataRoom, data := loose("data")
	x := loaded(t, tree.Full{Place: "/"}, tree.Full{Place: at, Data: data})
	want := x.Nodes()
	scribble(atRoom, '/')
	scribble(dataRoom, '!')
	if !slices.Equal(x.Nodes(), want) {
		t.Errorf("P4.11: Load kept a text: %+v", x.Nodes())
	}
	for _, kind := range []int{api.OpMake, api.OpSet} {
		x := tree.New()
		if kind == api.OpSet {
			x.Play(1, 1, maker("/b", "", 0))
		}
		atRoom, at := loose("/b")
		dataRoom, data := loose("more")
		if reply, _ := x.Play(1, 2, api.Op{Kind: kind, Place: at, Data: data}); reply.Code != api.OK {
			t.Fatalf("P4.4: %+v", reply)
		}
		scribble(atRoom, '/')
		scribble(dataRoom, '!')
		part, code := x.Part("/b", api.WatchNode)
		if code != api.OK || len(part) != 1 || part[0].Place != "/b" || part[0].Data != "more" {
			t.Errorf("P4.11: Play kept a text of kind %d: %+v, %d", kind, part, code)
		}
	}
}

// TestReadersAtOneTime: Part and Nodes of one tree may be asked from several goroutines, as they turn nothing.
func TestReadersAtOneTime(t *testing.T) {
	x := loaded(t, grown(64)...)
	want := x.Nodes()
	var all sync.WaitGroup
	for range 4 {
		all.Go(func() {
			for range 20 {
				if got := x.Nodes(); !slices.Equal(got, want) {
					t.Errorf("P4.7: %+v", got)
				}
				x.Part("/", api.WatchSubtree)
			}
		})
	}
	all.Wait()
}
