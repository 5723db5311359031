package tree

import (
	"strings"

	"herald/api"
	"herald/place"
)

const (
	anyVersion   = -1
	counterWidth = 5 // digits behind the name of a counted node
)

// need says what a kind of op asks of an op and of the tree.
type need struct {
	fresh   bool // Flags must be ones that there are, and Place a new one below a node
	inner   bool // Place must not be the root
	data    bool // Data must not be too long
	version bool // Version must be the node's
	leaf    bool // the node must have no children
	rise    bool // the node's version must be able to rise
}

// needs has a row for each kind of op.
var needs = [...]need{
	api.OpMake:  {fresh: true, inner: true, data: true},
	api.OpSet:   {data: true, version: true, rise: true},
	api.OpDrop:  {inner: true, version: true, leaf: true},
	api.OpCheck: {version: true},
	api.OpGet:   {},
	api.OpLook:  {},
	api.OpList:  {},
}

// request is a request while it is played, on a copy of a tree's nodes.
type request struct {
	session, stamp int
	nodes          nodes
	changes        []api.Change
}

// play does one op, or tells why it is refused.
func (r *request) play(op api.Op) (api.Result, api.Errno) {
	if code := r.malformed(op); code != api.OK {
		return api.Result{}, code
	}
	if needs[op.Kind].fresh {
		return r.makeNode(op)
	}
	n, there := r.nodes[op.Place]
	if !there {
		return api.Result{}, api.ErrNoNode
	}
	if code := r.misfit(op, n); code != api.OK {
		return api.Result{}, code
	}
	switch op.Kind {
	case api.OpSet:
		return r.set(n, op.Data), api.OK
	case api.OpDrop:
		return r.drop(n), api.OK
	}
	return r.read(op.Kind, n), api.OK
}

// malformed tells why an op is refused whatever nodes there are.
func (r *request) malformed(op api.Op) api.Errno {
	if op.Kind < api.OpMake || op.Kind > api.OpList {
		return api.ErrOp
	}
	asked := needs[op.Kind]
	if asked.fresh && op.Flags&^(api.FlagBrief|api.FlagCounted) != 0 {
		return api.ErrOp
	}
	name, code := place.Name(op.Place)
	switch {
	case code != api.OK || isCounted(op) && len(name) > api.MaxName-counterWidth:
		return api.ErrPlace
	case asked.inner && op.Place == root:
		return api.ErrRoot
	case isBrief(op) && r.session == 0:
		return api.ErrBrief
	case asked.data && len(op.Data) > api.MaxData:
		return api.ErrLarge
	}
	return api.OK
}

// misfit tells why an op is refused for the node that it is of.
func (r *request) misfit(op api.Op, n Full) api.Errno {
	asked := needs[op.Kind]
	switch {
	case asked.version && op.Version != anyVersion && op.Version != n.Version:
		return api.ErrVersion
	case asked.leaf && len(r.nodes.kids(n.Place)) > 0:
		return api.ErrNotEmpty
	case asked.rise && n.Version >= api.MaxNumber:
		return api.ErrFull
	}
	return api.OK
}

// makeNode makes a node below one that is there.
func (r *request) makeNode(op api.Op) (api.Result, api.Errno) {
	parent, there := r.nodes.parent(op.Place)
	if !there {
		return api.Result{}, api.ErrNoNode
	}
	if parent.isBrief() {
		return api.Result{}, api.ErrBrief
	}
	at := op.Place
	if isCounted(op) {
		if parent.Counter > api.MaxCounter {
			return api.Result{}, api.ErrFull
		}
		at, _ = place.Counted(op.Place, parent.Counter)
		parent.Counter++
	}
	if _, there := r.nodes[at]; there {
		return api.Result{}, api.ErrExists
	}
	if len(r.nodes) >= api.MaxNodes {
		return api.Result{}, api.ErrFull
	}
	n := Full{Place: at, Data: op.Data, Made: r.stamp, Changed: r.stamp}
	if isBrief(op) {
		n.Owner = r.session
	}
	r.nodes.put(parent)
	r.nodes.put(n)
	r.changes = append(r.changes, n.change(api.ChangeMade))
	return n.result(), api.OK
}

func (r *request) set(n Full, data string) api.Result {
	n.Data = data
	n.Version++
	n.Changed = r.stamp
	r.nodes.put(n)
	r.changes = append(r.changes, n.change(api.ChangeSet))
	return n.result()
}

// drop leaves the parent's counter as it is, so that no counted place comes twice.
func (r *request) drop(n Full) api.Result {
	delete(r.nodes, n.Place)
	n.Data = ""
	r.changes = append(r.changes, n.change(api.ChangeGone))
	return api.Result{Place: strings.Clone(n.Place)}
}

func (r *request) read(kind int, n Full) api.Result {
	result := n.result()
	switch kind {
	case api.OpGet:
		result.Data = strings.Clone(n.Data)
	case api.OpList:
		result.Kids = r.nodes.kids(n.Place)
	}
	return result
}

func isCounted(op api.Op) bool {
	return flagsOf(op)&api.FlagCounted != 0
}

func isBrief(op api.Op) bool {
	return flagsOf(op)&api.FlagBrief != 0
}

// flagsOf are none where the kind of op does not look at them, whatever stands there.
func flagsOf(op api.Op) int {
	if needs[op.Kind].fresh {
		return op.Flags
	}
	return 0
}
