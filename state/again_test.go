package state_test

import (
	"encoding/binary"
	"fmt"
	"regexp"
	"slices"
	"strings"
	"testing"

	"herald/api"
	"herald/state"
	"herald/tree"
)

// frozen is all that a machine knows, as plain data: a second reckoning of the chapter by other means.
type frozen struct {
	last  int
	nodes []tree.Full
	slots [16]slot
}

// slot says whether it is open as a number, as the bytes do.
type slot struct {
	newest, open, request int
	reply                 api.Reply
}

func rootAlone() []tree.Full { return []tree.Full{{Place: "/"}} }

// text is P8.7.
func (f frozen) text() string {
	var all []byte
	put := func(things ...any) {
		for _, x := range things {
			switch v := x.(type) {
			case int:
				all = binary.AppendUvarint(all, uint64(v))
			case string:
				all = append(binary.AppendUvarint(all, uint64(len(v))), v...)
			}
		}
	}
	put(f.last, len(f.nodes))
	for _, n := range f.nodes {
		put(n.Place, n.Data, n.Version, n.Made, n.Changed, n.Owner, n.Counter)
	}
	for _, s := range f.slots {
		put(s.newest, s.open, s.request)
		if s.request == 0 {
			continue
		}
		put(s.reply.Stamp, int(s.reply.Code), s.reply.At, len(s.reply.Results))
		for _, r := range s.reply.Results {
			put(r.Place, r.Data, r.Version, r.Made, r.Changed, r.Owner, len(r.Kids))
			for _, kid := range r.Kids {
				put(kid)
			}
		}
	}
	return string(all)
}

// scan reads numbers and texts; what is behind a fault is 0 and empty.
type scan struct {
	rest  string
	fault bool
}

func (s *scan) number() int {
	v, size := binary.Uvarint([]byte(s.rest))
	if s.fault || size <= 0 || v > 2147483647 || size > 1 && s.rest[size-1] == 0 {
		s.fault = true
		return 0
	}
	s.rest = s.rest[size:]
	return int(v)
}

func (s *scan) text() string {
	size := s.number()
	if s.fault || size > len(s.rest) {
		s.fault = true
		return ""
	}
	text := s.rest[:size]
	s.rest = s.rest[size:]
	return text
}

// list reads as many as a number says; a fault ends it, so that no number makes it long.
func list[T any](s *scan, one func() T) []T {
	var all []T
	for range s.number() {
		if s.fault {
			return nil
		}
		all = append(all, one())
	}
	return all
}

// scanned reads what text writes.
func scanned(text string) (frozen, bool) {
	s := &scan{rest: text}
	n, t := s.number, s.text
	f := frozen{last: n()}
	f.nodes = list(s, func() tree.Full {
		return tree.Full{Place: t(), Data: t(), Version: n(), Made: n(), Changed: n(), Owner: n(), Counter: n()}
	})
	for i := range f.slots {
		f.slots[i] = slot{newest: n(), open: n(), request: n()}
		if f.slots[i].request != 0 {
			f.slots[i].reply = api.Reply{Stamp: n(), Code: api.Errno(n()), At: n()}
			f.slots[i].reply.Results = list(s, func() api.Result {
				return api.Result{Place: t(), Data: t(), Version: n(), Made: n(), Changed: n(), Owner: n(), Kids: list(s, t)}
			})
		}
	}
	return f, !s.fault && s.rest == ""
}

var shape = regexp.MustCompile(`^(|/|(/[A-Za-z0-9_.-]{1,16}){1,6})$`)

// mayStand tells whether a text is empty or a place.
func mayStand(text string) bool {
	names := strings.Split(text, "/")
	return shape.MatchString(text) && !slices.Contains(names, ".") && !slices.Contains(names, "..")
}

// mayBe is P8.8.
func (f frozen) mayBe() bool {
	var owners []int
	for i, s := range f.slots {
		if s.open == 1 {
			owners = append(owners, s.newest)
		}
		if s.newest > 0 && s.newest%16 != i || s.newest == 0 && s.open != 0 || s.open > 1 || s.open == 0 && s.request != 0 {
			return false
		}
		if s.request != 0 && !f.mayKeep(s.reply) {
			return false
		}
	}
	for _, n := range f.nodes {
		if n.Made > f.last || n.Changed > f.last || n.Owner != 0 && !slices.Contains(owners, n.Owner) {
			return false
		}
	}
	_, code := tree.Load(f.nodes)
	return code == api.OK
}

func (f frozen) mayKeep(r api.Reply) bool {
	failed := r.Code != api.OK
	if r.Stamp < 1 || r.Stamp > f.last || r.At > 3 || len(r.Results) > 4 || failed && len(r.Results) > 0 || !failed && r.At > 0 {
		return false
	}
	for _, x := range r.Results {
		if !mayStand(x.Place) || len(x.Data) > 64 || len(x.Kids) > 64 {
			return false
		}
		for _, kid := range x.Kids {
			if kid == "" || strings.Contains(kid, "/") || !mayStand("/"+kid) {
				return false
			}
		}
	}
	return true
}

// next is P8.2 to P8.4: what is known behind an entry that may be, at the next stamp.
func (f frozen) next(e api.Entry) (frozen, api.Reply, []api.Change) {
	f.last++
	own := &f.slots[e.Session%16]
	isOpen := own.newest == e.Session && own.open == 1
	plain := api.Reply{Stamp: e.Stamp}
	switch {
	case e.Kind == api.EntryOpen && own.newest < e.Session:
		changes := f.end(own.newest * own.open)
		*own = slot{newest: e.Session, open: 1}
		return f, plain, changes
	case e.Kind == api.EntryOpen && !isOpen:
		plain.Code = api.ErrOld
	case e.Kind == api.EntryOpen:
	case !isOpen:
		plain.Code = api.ErrSession
	case e.Kind != api.EntryRequest:
		*own = slot{newest: e.Session}
		return f, plain, f.end(e.Session)
	case e.Request < own.request:
		plain.Code = api.ErrRequest
	case e.Request == own.request:
		return f, own.reply, nil
	default:
		x, _ := tree.Load(f.nodes)
		reply, changes := x.Play(e.Session, e.Stamp, e.Ops...)
		f.nodes = x.Nodes()
		own.request, own.reply = e.Request, reply
		return f, reply, changes
	}
	return f, plain, nil
}

// end takes a session's brief nodes out of the list.
func (f *frozen) end(session int) []api.Change {
	var left []tree.Full
	var changes []api.Change
	for _, n := range f.nodes {
		if session > 0 && n.Owner == session {
			changes = append(changes, api.Change{Kind: api.ChangeGone, Place: n.Place, Version: n.Version})
		} else {
			left = append(left, n)
		}
	}
	f.nodes = left
	return changes
}

// answers tells what a machine answers to all that does not change it, as far as it is not what the second reckoning says.
func (f frozen) answers(m *state.Machine) string {
	var sessions []int
	for i, s := range f.slots {
		if m.Newest(i) != s.newest {
			return fmt.Sprintf("Newest(%d) is %d, want %d", i, m.Newest(i), s.newest)
		}
		number, reply, code := m.Kept(s.newest)
		if s.open == 1 {
			sessions = append(sessions, s.newest)
			if number != s.request || !sameReply(reply, s.reply) || code != api.OK {
				return fmt.Sprintf("Kept(%d) is %d, %s, %d; want %d, %s", s.newest, number, tell(reply), code, s.request, tell(s.reply))
			}
		} else if number != 0 || !sameReply(reply, api.Reply{}) || code != api.ErrSession {
			return fmt.Sprintf("Kept(%d) is %d, %s, %d", s.newest, number, tell(reply), code)
		}
	}
	slices.Sort(sessions)
	if m.Last() != f.last || !slices.Equal(m.Sessions(), sessions) {
		return fmt.Sprintf("Last %d, Sessions %v; want %d, %v", m.Last(), m.Sessions(), f.last, sessions)
	}
	part, code := m.Part("/", api.WatchSubtree)
	same := slices.EqualFunc(part.Nodes, f.nodes, func(s api.Seen, n tree.Full) bool {
		return s == api.Seen{Place: n.Place, Data: n.Data, Version: n.Version}
	})
	if code != api.OK || part.Stamp != f.last || !same {
		return fmt.Sprintf("Part is %s, %d; want %s", tell(part), code, tell(f.nodes))
	}
	if m.Freeze() != f.text() {
		return fmt.Sprintf("Freeze is %x, want %x", m.Freeze(), f.text())
	}
	return ""
}

// sameAnswers tells in what two machines are not the same.
func sameAnswers(a, b *state.Machine) string {
	f, whole := scanned(b.Freeze())
	if !whole {
		return fmt.Sprintf("no machine's text: %x", b.Freeze())
	}
	return f.answers(a)
}

// follows plays an entry that is next and may be on a machine, and holds its answer against the second reckoning.
func (f frozen) follows(t *testing.T, what string, m *state.Machine, e api.Entry) frozen {
	t.Helper()
	next, reply, changes := f.next(e)
	plays(t, what, m, e, reply, changes...)
	if wrong := next.answers(m); wrong != "" {
		t.Errorf("%s: behind %s: %s", what, tell(e), wrong)
	}
	return next
}

// thaws holds what Thaw makes of a text against the second reckoning, and tells whether it is a machine's.
func thaws(t *testing.T, what, text string) bool {
	t.Helper()
	f, whole := scanned(text)
	want := api.OK
	switch {
	case len(text) > 200000:
		want = api.ErrLong
	case !whole || !f.mayBe():
		want = api.ErrThaw
	}
	m, code := state.Thaw(text)
	if code != want || (m == nil) != (want != api.OK) {
		t.Errorf("%s: Thaw(%.600x) = %v, %d; want %d", what, text, m != nil, code, want)
		return false
	}
	if want != api.OK {
		return false
	}
	if wrong := f.answers(m); wrong != "" {
		t.Errorf("%s: Thaw(%.600x): %s", what, text, wrong)
	}
	if m.Freeze() != text {
		t.Errorf("P8.9: %s: Thaw(%.600x) freezes to %.600x", what, text, m.Freeze())
	}
	return true
}
