package recipe

import (
	"strings"

	"herald/api"
)

// taker takes items from the queue at Base, and waits as long as there are none.
type taker struct{ times }

func (t *taker) goOn() { t.ask(t.hearList, opAt(api.OpList, t.Base)) }

func (t *taker) hearList(r api.Reply) {
	if r.Code != api.OK {
		t.lose(r.Code)
		return
	}
	names := t.rivalsOf(r.Results[0].Kids)
	if len(names) > 0 {
		first := t.below(names[0])
		t.askFor(t.takeItem, t.hearTaken, opAt(api.OpGet, first), dropOf(first))
		return
	}
	t.held.Phase = api.HeldWaiting
	switch {
	case t.watch == nil:
		t.watchAt(t.Base, api.WatchKids)
	case t.watch.picture.Stamp > r.Stamp && t.hasItems():
		t.goOn()
	}
}

// hasItems tells whether there were items at the time of the picture.
func (t *taker) hasItems() bool { return len(t.rivalsIn(t.watch.picture)) > 0 }

func (t *taker) takeItem(r api.Reply) {
	t.held.Place = t.open.ops[0].Place
	t.add(strings.Clone(r.Results[0].Data), r.Stamp)
}

func (t *taker) hearTaken(r api.Reply) {
	switch r.Code {
	case api.OK:
		if !t.isThrough() {
			t.held.Phase = api.HeldAsking
			t.goOn()
		}
	case api.ErrNoNode:
		t.goOn()
	default:
		t.lose(r.Code)
	}
}

// see: where a request is open, its answer comes to look at the picture.
func (t *taker) see() {
	if t.held.Phase == api.HeldWaiting && t.open == nil && t.hasItems() {
		t.goOn()
	}
}
