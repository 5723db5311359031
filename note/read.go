package note

import (
	"herald/api"
	"herald/wire"
)

// reader goes over bytes, and gives up where they do not say what is asked for.
type reader struct {
	bytes []byte
	at    int
}

func (r *reader) end() {
	must(r.at == len(r.bytes))
}

func (r *reader) number() int {
	v, next, code := wire.ReadNumber(r.bytes, r.at)
	must(code == api.OK)
	r.at = next
	return v
}

func (r *reader) text() string {
	s, next, code := wire.ReadText(r.bytes, r.at)
	must(code == api.OK)
	r.at = next
	return s
}

func (r *reader) truth() bool {
	v := r.number()
	must(v <= 1)
	return v == 1
}

func (r *reader) version() int {
	if r.truth() {
		return r.number()
	}
	return anyVersion
}

// readList believes no count: a list grows only by elements that the bytes have.
func readList[T any](r *reader, read func(*reader) T) []T {
	var list []T
	for range r.number() {
		list = append(list, read(r))
	}
	return list
}

func readFields(r *reader, n *api.Note, fields []field) {
	for _, f := range fields {
		f.read(r, n)
	}
}

func readOp(r *reader) api.Op {
	return api.Op{Kind: r.number(), Place: r.text(), Data: r.text(), Version: r.version(), Flags: r.number()}
}

func readEntry(r *reader) api.Entry {
	return api.Entry{Stamp: r.number(), View: r.number(), Kind: r.number(), Session: r.number(), Request: r.number(), Ops: readList(r, readOp)}
}

func readReply(r *reader) api.Reply {
	return api.Reply{Stamp: r.number(), Code: api.Errno(r.number()), At: r.number(), Results: readList(r, readResult)}
}

func readResult(r *reader) api.Result {
	return api.Result{Place: r.text(), Data: r.text(), Version: r.number(), Made: r.number(), Changed: r.number(), Owner: r.number(), Kids: readList(r, (*reader).text)}
}

func readView(r *reader) api.View {
	return api.View{Num: r.number(), Primary: r.number(), Backup: r.number()}
}

func readWatch(r *reader) api.Watch {
	return api.Watch{Id: r.number(), Place: r.text(), Kind: r.number(), From: r.number()}
}

func readPart(r *reader) api.Part {
	return api.Part{Id: r.number(), Shot: readShot(r)}
}

func readShot(r *reader) api.Shot {
	return api.Shot{Stamp: r.number(), Place: r.text(), Kind: r.number(), Nodes: readList(r, readSeen)}
}

func readSeen(r *reader) api.Seen {
	return api.Seen{Place: r.text(), Data: r.text(), Version: r.number()}
}

func readItem(r *reader) api.Item {
	i := api.Item{Stamp: r.number(), After: r.number(), Marker: r.truth()}
	if i.Marker {
		i.Parts = readList(r, readPart)
	} else {
		i.Changes = readList(r, readTagged)
	}
	return i
}

func readTagged(r *reader) api.Tagged {
	c := api.Change{Kind: r.number(), Place: r.text(), Data: r.text(), Version: r.number()}
	return api.Tagged{Change: c, Tags: readList(r, (*reader).number)}
}
