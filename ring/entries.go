package ring

import (
	"strings"

	"herald/api"
)

func isNumber(n int) bool {
	return n >= 0 && n <= api.MaxNumber
}

// orZero is the ring, or a zero one in the place of none: the two answer alike.
func (r *Ring) orZero() *Ring {
	if r == nil {
		return &Ring{}
	}
	return r
}

func (r *Ring) isFull() bool {
	return r.last-r.floor == r.room
}

// isFree tells whether the hold may rise to a stamp, and the last fall to it.
func (r *Ring) isFree(stamp int) api.Errno {
	if stamp < r.hold {
		return api.ErrHeld
	}
	if stamp > r.last {
		return api.ErrGap
	}
	return api.OK
}

// mayFollow tells whether an entry may stand behind the last one.
func (r *Ring) mayFollow(e api.Entry) api.Errno {
	last, view := r.Last()
	switch {
	case last == api.MaxNumber || !isNumber(e.View):
		return api.ErrNumber
	case e.Stamp != last+1:
		return api.ErrGap
	case e.View < view:
		return api.ErrArg
	case r.isFull() && r.hold == r.floor:
		// A ring without room is full, and its hold never leaves its floor.
		return api.ErrRoom
	}
	return api.OK
}

// at is the place of an entry in the array.
func (r *Ring) at(stamp int) *api.Entry {
	return &r.entries[stamp%r.room]
}

// pieces are so many entries above a stamp as they stand in the array: up to its end, and from its beginning on. Neither has spare room, in which the entries behind it would stand.
func (r *Ring) pieces(stamp, count int) ([]api.Entry, []api.Entry) {
	if count == 0 {
		return nil, nil
	}
	from := (stamp + 1) % r.room
	to := min(from+count, r.room)
	rest := count - (to - from)
	return r.entries[from:to:to], r.entries[0:rest:rest]
}

// run is so many entries above a stamp, taken out of the array. They have the ring's own ops still, which the ring never writes into.
func (r *Ring) run(stamp, count int) []api.Entry {
	head, tail := r.pieces(stamp, count)
	out := make([]api.Entry, count)
	copied := copy(out, head)
	copy(out[copied:], tail)
	return out
}

// own is an entry that shares no memory with the one that is given.
func own(e api.Entry) api.Entry {
	if len(e.Ops) == 0 {
		e.Ops = nil
		return e
	}
	ops := make([]api.Op, len(e.Ops))
	copy(ops, e.Ops)
	for i := range ops {
		ops[i].Place = strings.Clone(ops[i].Place)
		ops[i].Data = strings.Clone(ops[i].Data)
	}
	e.Ops = ops
	return e
}
