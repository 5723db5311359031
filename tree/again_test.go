package tree_test

import (
	"fmt"
	"path"
	"reflect"
	"regexp"
	"slices"
	"strings"

	"herald/api"
	"herald/tree"
)

// again is a tree by other means: a list of nodes, in the order in which they were made, with the table of P4.3 as rows.
type again []tree.Full

var shape = regexp.MustCompile(`^(/|(/[A-Za-z0-9_.-]{1,16}){1,6})$`)

func isPlace(text string) bool {
	names := strings.Split(text, "/")
	return shape.MatchString(text) && !slices.Contains(names, ".") && !slices.Contains(names, "..")
}

// byPlace orders places name by name.
func byPlace(a, b string) int {
	return slices.Compare(namesOf(a), namesOf(b))
}

func namesOf(at string) []string {
	if at == "/" {
		return nil
	}
	return strings.Split(at, "/")[1:]
}

func (g again) at(place string) (tree.Full, bool) {
	i := slices.IndexFunc(g, func(n tree.Full) bool { return n.Place == place })
	if i < 0 {
		return tree.Full{}, false
	}
	return g[i], true
}

func (g again) has(place string) bool {
	_, there := g.at(place)
	return there
}

func (g again) above(place string) tree.Full {
	n, _ := g.at(path.Dir(place))
	return n
}

func (g again) node(place string) tree.Full {
	n, _ := g.at(place)
	return n
}

func (g again) kids(place string) []string {
	var names []string
	for _, n := range g.sorted() {
		if n.Place != "/" && path.Dir(n.Place) == place {
			names = append(names, path.Base(n.Place))
		}
	}
	return names
}

func (g again) sorted() []tree.Full {
	return slices.SortedFunc(slices.Values(g), func(a, b tree.Full) int { return byPlace(a.Place, b.Place) })
}

// target is the place that a Make makes.
func (g again) target(op api.Op) string {
	if op.Flags&api.FlagCounted != 0 {
		return fmt.Sprintf("%s%05d", op.Place, g.above(op.Place).Counter)
	}
	return op.Place
}

// asked is what a row of the table of P4.3 is asked about.
type asked struct {
	again
	session int
	api.Op
}

func (a asked) counted() bool { return a.Flags&api.FlagCounted != 0 }
func (a asked) brief() bool   { return a.Flags&api.FlagBrief != 0 }

// row is a row of the table of P4.3, for the kinds of ops of which the row has an error.
type row struct {
	kinds   []int
	code    api.Errno
	applies func(asked) bool
}

func rows() []row {
	makes, sets, drops, made := []int{api.OpMake}, []int{api.OpSet}, []int{api.OpDrop}, []int{2, 3, 4, 5, 6, 7}
	return []row{
		{makes, api.ErrOp, func(a asked) bool { return a.Flags < 0 || a.Flags > 3 }},
		{[]int{1, 2, 3, 4, 5, 6, 7}, api.ErrPlace, func(a asked) bool { return !isPlace(a.Place) }},
		{makes, api.ErrPlace, func(a asked) bool { return a.counted() && len(path.Base(a.Place)) > 11 }},
		{[]int{api.OpMake, api.OpDrop}, api.ErrRoot, func(a asked) bool { return a.Place == "/" }},
		{makes, api.ErrBrief, func(a asked) bool { return a.brief() && a.session == 0 }},
		{[]int{api.OpMake, api.OpSet}, api.ErrLarge, func(a asked) bool { return len(a.Data) > 64 }},
		{makes, api.ErrNoNode, func(a asked) bool { return !a.has(path.Dir(a.Place)) }},
		{made, api.ErrNoNode, func(a asked) bool { return !a.has(a.Place) }},
		{makes, api.ErrBrief, func(a asked) bool { return a.above(a.Place).Owner != 0 }},
		{[]int{api.OpSet, api.OpDrop, api.OpCheck}, api.ErrVersion, func(a asked) bool { return a.Version != -1 && a.Version != a.node(a.Place).Version }},
		{drops, api.ErrNotEmpty, func(a asked) bool { return len(a.kids(a.Place)) > 0 }},
		{makes, api.ErrFull, func(a asked) bool { return a.counted() && a.above(a.Place).Counter > 99999 }},
		{makes, api.ErrExists, func(a asked) bool { return a.has(a.target(a.Op)) }},
		{makes, api.ErrFull, func(a asked) bool { return len(a.again) >= 64 }},
		{sets, api.ErrFull, func(a asked) bool { return a.node(a.Place).Version == 2147483647 }},
	}
}

// refusal is the error of the first row that applies to an op.
func (g again) refusal(session int, op api.Op) api.Errno {
	if op.Kind < 1 || op.Kind > 7 {
		return api.ErrOp
	}
	for _, r := range rows() {
		if slices.Contains(r.kinds, op.Kind) && r.applies(asked{g, session, op}) {
			return r.code
		}
	}
	return api.OK
}

// do does an op that is not refused: what the tree is then, the op's result, and its changes.
func (g again) do(session, stamp int, op api.Op) (again, api.Result, []api.Change) {
	next := slices.Clone(g)
	turn := func(place string, by func(*tree.Full)) {
		by(&next[slices.IndexFunc(next, func(n tree.Full) bool { return n.Place == place })])
	}
	n := g.node(op.Place)
	like := api.Result{Place: n.Place, Version: n.Version, Made: n.Made, Changed: n.Changed, Owner: n.Owner}
	switch op.Kind {
	case api.OpMake:
		n = tree.Full{Place: g.target(op), Data: op.Data, Made: stamp, Changed: stamp, Owner: session * (op.Flags & 1)}
		turn(path.Dir(op.Place), func(n *tree.Full) { n.Counter += op.Flags >> 1 })
		return append(next, n), api.Result{Place: n.Place, Made: stamp, Changed: stamp, Owner: n.Owner}, []api.Change{{Kind: 1, Place: n.Place, Data: op.Data}}
	case api.OpSet:
		turn(op.Place, func(n *tree.Full) { n.Data, n.Version, n.Changed = op.Data, n.Version+1, stamp })
		like.Version, like.Changed = n.Version+1, stamp
		return next, like, []api.Change{{Kind: 2, Place: op.Place, Data: op.Data, Version: n.Version + 1}}
	case api.OpDrop:
		left := slices.DeleteFunc(next, func(n tree.Full) bool { return n.Place == op.Place })
		return left, api.Result{Place: op.Place}, []api.Change{{Kind: 3, Place: op.Place, Version: n.Version}}
	case api.OpGet:
		like.Data = n.Data
	case api.OpList:
		like.Kids = g.kids(op.Place)
	}
	return next, like, nil
}

// play is P4.2.
func (g again) play(session, stamp int, ops []api.Op) (again, api.Reply, []api.Change) {
	code := api.OK
	switch {
	case len(ops) > 4:
		code = api.ErrLong
	case session < 0 || session > 2147483647 || stamp < 1 || stamp > 2147483647:
		code = api.ErrNumber
	case len(ops) == 0:
		code = api.ErrOp
	}
	if code != api.OK {
		return g, api.Reply{Stamp: stamp, Code: code}, nil
	}
	next, reply, changes := g, api.Reply{Stamp: stamp}, []api.Change(nil)
	for i, op := range ops {
		if code := next.refusal(session, op); code != api.OK {
			return g, api.Reply{Stamp: stamp, Code: code, At: i}, nil
		}
		then, result, more := next.do(session, stamp, op)
		next, reply.Results, changes = then, append(reply.Results, result), append(changes, more...)
	}
	return next, reply, changes
}

// end is P4.5.
func (g again) end(session int) (again, []api.Change) {
	var left again
	var changes []api.Change
	for _, n := range g {
		if n.Owner == session && session > 0 {
			changes = append(changes, api.Change{Kind: 3, Place: n.Place, Version: n.Version})
		} else {
			left = append(left, n)
		}
	}
	slices.SortFunc(changes, func(a, b api.Change) int { return byPlace(a.Place, b.Place) })
	return left, changes
}

// part is P4.6, for a place and a kind of watch.
func (g again) part(at string, kind int) []api.Seen {
	var part []api.Seen
	for _, n := range g.sorted() {
		seen := api.Seen{Place: n.Place, Data: n.Data, Version: n.Version}
		own, above := namesOf(at), namesOf(n.Place)
		below := len(above) > len(own) && slices.Equal(above[:len(own)], own)
		switch {
		case kind == api.WatchKids && (n.Place == at || below && len(above) == len(own)+1):
			part = append(part, api.Seen{Place: n.Place})
		case kind != api.WatchKids && n.Place == at, kind == api.WatchSubtree && below:
			part = append(part, seen)
		}
	}
	return part
}

// loadAgain is P4.8: whether a list can be loaded.
func loadAgain(list []tree.Full) api.Errno {
	if len(list) > 64 {
		return api.ErrLong
	}
	in := func(n, low, high int) bool { return n >= low && n <= high }
	for i, n := range list {
		above, there := again(list[:i]).at(path.Dir(n.Place))
		fits := isPlace(n.Place) && (n.Place == "/") == (i == 0) && (i == 0 || there && above.Owner == 0 && byPlace(list[i-1].Place, n.Place) < 0)
		numbers := min(n.Version, n.Made, n.Changed, n.Owner) >= 0 && max(n.Version, n.Made, n.Changed, n.Owner) <= 2147483647
		brief := n.Owner == 0 || n.Counter == 0 && n.Place != "/"
		if !fits || !numbers || !brief || len(n.Data) > 64 || !in(n.Counter, 0, 100000) {
			return api.ErrArg
		}
	}
	if len(list) == 0 {
		return api.ErrArg
	}
	return api.OK
}

func sameReply(a, b api.Reply) bool {
	return a.Stamp == b.Stamp && a.Code == b.Code && a.At == b.At && slices.EqualFunc(a.Results, b.Results, sameResult)
}

func sameResult(a, b api.Result) bool {
	kids := slices.Equal(a.Kids, b.Kids)
	a.Kids, b.Kids = nil, nil
	return kids && reflect.DeepEqual(a, b)
}
