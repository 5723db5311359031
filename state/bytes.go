package state

import (
	"herald/api"
	"herald/place"
	"herald/tree"
	"herald/wire"
)

const root = "/"

// writer puts bytes behind those that it has.
type writer struct {
	bytes []byte
}

// put has no error to look at: a machine has nothing that package wire refuses.
func (w *writer) put(piece []byte, _ api.Errno) {
	w.bytes = append(w.bytes, piece...)
}

func (w *writer) numbers(list ...int) {
	for _, v := range list {
		w.put(wire.Number(v))
	}
}

func (w *writer) texts(list ...string) {
	for _, s := range list {
		w.put(wire.Text(s))
	}
}

func (w *writer) nodes(all []tree.Full) {
	w.numbers(len(all))
	for _, n := range all {
		w.texts(n.Place, n.Data)
		w.numbers(n.Version, n.Made, n.Changed, n.Owner, n.Counter)
	}
}

func (w *writer) slot(session int, isOpen bool, kept lastRequest) {
	w.numbers(session)
	if isOpen {
		w.numbers(1)
	} else {
		w.numbers(0)
	}
	w.numbers(kept.number)
	if kept.number != 0 {
		w.reply(kept.reply)
	}
}

func (w *writer) reply(reply api.Reply) {
	w.numbers(reply.Stamp, int(reply.Code), reply.At, len(reply.Results))
	for _, r := range reply.Results {
		w.texts(r.Place, r.Data)
		w.numbers(r.Version, r.Made, r.Changed, r.Owner, len(r.Kids))
		w.texts(r.Kids...)
	}
}

// noMachine is what a reader gives up with: the bytes are no machine's.
type noMachine struct{}

// must gives up unless what the bytes of a machine need holds.
func must(holds bool) {
	if !holds {
		panic(noMachine{})
	}
}

// reader goes over bytes, and gives up where they do not say what is asked for.
type reader struct {
	bytes []byte
	at    int
}

// read reads the next thing by one of package wire's readers.
func read[T any](r *reader, next func(data []byte, at int) (T, int, api.Errno)) T {
	v, behind, code := next(r.bytes, r.at)
	must(code == api.OK)
	r.at = behind
	return v
}

// number reads one that is not above a greatest one.
func (r *reader) number(greatest int) int {
	v := read(r, wire.ReadNumber)
	must(v <= greatest)
	return v
}

func (r *reader) text() string {
	return read(r, wire.ReadText)
}

func (r *reader) machine() *Machine {
	m := &Machine{last: r.number(api.MaxNumber), open: map[int]lastRequest{}}
	nodes := r.nodes(m.last)
	for slot := range m.newest {
		r.slot(m, slot)
	}
	for _, n := range nodes {
		_, isOpen := m.open[n.Owner]
		must(n.Owner == 0 || isOpen)
	}
	loaded, code := tree.Load(nodes)
	must(code == api.OK)
	m.nodes = loaded
	return m
}

func (r *reader) nodes(last int) []tree.Full {
	var all []tree.Full
	for range r.number(api.MaxNodes) {
		all = append(all, tree.Full{
			Place: r.text(), Data: r.text(),
			Version: r.number(api.MaxNumber), Made: r.number(last), Changed: r.number(last),
			Owner: r.number(api.MaxNumber), Counter: r.number(api.MaxNumber),
		})
	}
	return all
}

func (r *reader) slot(m *Machine, slot int) {
	session := r.number(api.MaxNumber)
	must(session == 0 || session%api.MaxSlots == slot)
	m.newest[slot] = session
	isOpen := r.number(1) == 1
	kept := lastRequest{number: r.number(api.MaxNumber)}
	if !isOpen {
		must(kept.number == 0)
		return
	}
	must(session != 0)
	if kept.number != 0 {
		kept.reply = r.reply(m.last)
	}
	m.open[session] = kept
}

func (r *reader) reply(last int) api.Reply {
	reply := api.Reply{Stamp: r.number(last), Code: api.Errno(r.number(api.MaxNumber)), At: r.number(api.MaxOps - 1)}
	must(reply.Stamp >= 1)
	for range r.number(api.MaxOps) {
		reply.Results = append(reply.Results, r.result())
	}
	if reply.Code == api.OK {
		must(reply.At == 0)
	} else {
		must(len(reply.Results) == 0)
	}
	return reply
}

func (r *reader) result() api.Result {
	result := api.Result{
		Place: r.text(), Data: r.text(),
		Version: r.number(api.MaxNumber), Made: r.number(api.MaxNumber), Changed: r.number(api.MaxNumber), Owner: r.number(api.MaxNumber),
	}
	_, code := place.Parse(result.Place)
	must(result.Place == "" || code == api.OK)
	must(len(result.Data) <= api.MaxData)
	for range r.number(api.MaxNodes) {
		kid := r.text()
		_, code := place.Join(root, kid)
		must(code == api.OK)
		result.Kids = append(result.Kids, kid)
	}
	return result
}
