package shot

import (
	"herald/api"
	"herald/wire"
)

// noShot is what a reader gives up with: the bytes are no shot's.
type noShot struct{}

// must gives up unless what the bytes of a shot need holds.
func must(holds bool) {
	if !holds {
		panic(noShot{})
	}
}

// reader goes over bytes, and gives up where they do not say what is asked for.
type reader struct {
	bytes []byte
	at    int
}

func (r *reader) number() int {
	v, next, code := wire.ReadNumber(r.bytes, r.at)
	must(code == api.OK)
	r.at = next
	return v
}

func (r *reader) text() string {
	s, next, code := wire.ReadText(r.bytes, r.at)
	must(code == api.OK)
	r.at = next
	return s
}

func (r *reader) shot() api.Shot {
	s := api.Shot{Stamp: r.number(), Place: r.text(), Kind: r.number()}
	count := r.number()
	// Ahead of reading them, so that no more are read than a shot may have.
	must(count <= api.MaxNodes)
	for range count {
		s.Nodes = append(s.Nodes, api.Seen{Place: r.text(), Data: r.text(), Version: r.number()})
	}
	return s
}

// writer puts bytes behind those that it has.
type writer struct {
	bytes []byte
}

// put has no error to look at: a shot that may be has nothing that package wire refuses.
func (w *writer) put(piece []byte, _ api.Errno) {
	w.bytes = append(w.bytes, piece...)
}

func (w *writer) number(v int) {
	w.put(wire.Number(v))
}

func (w *writer) text(s string) {
	w.put(wire.Text(s))
}

func (w *writer) shot(s api.Shot) {
	w.number(s.Stamp)
	w.text(s.Place)
	w.number(s.Kind)
	w.number(len(s.Nodes))
	for _, n := range s.Nodes {
		w.text(n.Place)
		w.text(n.Data)
		w.number(n.Version)
	}
}
