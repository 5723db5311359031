package note

import (
	"herald/api"
	"herald/wire"
)

// anyVersion is the version of an op that asks for none.
const anyVersion = -1

// writer puts bytes behind those that it has.
type writer struct {
	bytes []byte
}

func (w *writer) put(piece []byte, code api.Errno) {
	must(code == api.OK)
	w.bytes = append(w.bytes, piece...)
}

func (w *writer) number(v int) {
	w.put(wire.Number(v))
}

func (w *writer) numbers(all ...int) {
	for _, v := range all {
		w.number(v)
	}
}

func (w *writer) text(s string) {
	w.put(wire.Text(s))
}

func (w *writer) truth(holds bool) {
	if holds {
		w.number(1)
		return
	}
	w.number(0)
}

// version has a number of its own for the version that is none, as numbers on bytes are not below 0.
func (w *writer) version(v int) {
	if v == anyVersion {
		w.number(0)
		return
	}
	w.numbers(1, v)
}

func writeList[T any](w *writer, list []T, write func(*writer, T)) {
	w.number(len(list))
	for _, element := range list {
		write(w, element)
	}
}

func writeFields(w *writer, n *api.Note, fields []field) {
	for _, f := range fields {
		f.write(w, n)
	}
}

func writeOp(w *writer, o api.Op) {
	w.number(o.Kind)
	w.text(o.Place)
	w.text(o.Data)
	w.version(o.Version)
	w.number(o.Flags)
}

func writeEntry(w *writer, e api.Entry) {
	w.numbers(e.Stamp, e.View, e.Kind, e.Session, e.Request)
	writeList(w, e.Ops, writeOp)
}

func writeReply(w *writer, r api.Reply) {
	w.numbers(r.Stamp, int(r.Code), r.At)
	writeList(w, r.Results, writeResult)
}

func writeResult(w *writer, r api.Result) {
	w.text(r.Place)
	w.text(r.Data)
	w.numbers(r.Version, r.Made, r.Changed, r.Owner)
	writeList(w, r.Kids, (*writer).text)
}

func writeView(w *writer, v api.View) {
	w.numbers(v.Num, v.Primary, v.Backup)
}

func writeWatch(w *writer, x api.Watch) {
	w.number(x.Id)
	w.text(x.Place)
	w.numbers(x.Kind, x.From)
}

func writePart(w *writer, p api.Part) {
	w.number(p.Id)
	writeShot(w, p.Shot)
}

func writeShot(w *writer, s api.Shot) {
	w.number(s.Stamp)
	w.text(s.Place)
	w.number(s.Kind)
	writeList(w, s.Nodes, writeSeen)
}

func writeSeen(w *writer, s api.Seen) {
	w.text(s.Place)
	w.text(s.Data)
	w.number(s.Version)
}

func writeItem(w *writer, i api.Item) {
	w.numbers(i.Stamp, i.After)
	w.truth(i.Marker)
	if i.Marker {
		writeList(w, i.Parts, writePart)
		return
	}
	writeList(w, i.Changes, writeTagged)
}

func writeTagged(w *writer, t api.Tagged) {
	w.number(t.Change.Kind)
	w.text(t.Change.Place)
	w.text(t.Change.Data)
	w.number(t.Change.Version)
	writeList(w, t.Tags, (*writer).number)
}
