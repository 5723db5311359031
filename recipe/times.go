package recipe

import "herald/api"

// times is what counters, putting and taking have in common: something is done so many times, whatever is lost between.
type times struct{ common }

func (t *times) renew() { t.held = api.Held{Phase: api.HeldAsking, Values: t.held.Values} }

// add puts a value behind the others.
func (t *times) add(value string, stamp int) {
	t.held.Values, t.held.Stamp = append(t.held.Values, value), stamp
}

// isThrough tells whether that was the last time; then the job is done.
func (t *times) isThrough() bool {
	if len(t.held.Values) < t.Size {
		return false
	}
	t.giveUp()
	t.finish()
	return true
}

func (t *times) quit() { t.finish() }

// see: only who takes watches.
func (t *times) see() {}

// opAt is an op that asks nothing but a place.
func opAt(kind int, at string) api.Op { return api.Op{Kind: kind, Place: at} }
