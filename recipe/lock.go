package recipe

import (
	"slices"

	"herald/api"
)

// lock is in as long as its node is the first one. Of those ahead it watches the next one alone, so that not all wake up at once.
type lock struct{ own }

func (l *lock) goOn() { l.enter(l.hearEntered) }

func (l *lock) hearEntered(r api.Reply) {
	if l.waits(r) {
		l.look()
	}
}

// look asks who is ahead.
func (l *lock) look() { l.ask(l.hearList, api.Op{Kind: api.OpList, Place: l.Base}) }

func (l *lock) hearList(r api.Reply) {
	if r.Code != api.OK {
		l.lose(r.Code)
		return
	}
	names := l.rivalsOf(r.Results[0].Kids)
	switch i := slices.Index(names, l.ownName()); i {
	case -1:
		l.lose(api.ErrNoNode)
	case 0:
		l.comeIn(r.Stamp)
	default:
		l.watchAt(l.below(names[i-1]), api.WatchNode)
	}
}

func (l *lock) see() {
	if len(l.watch.picture.Nodes) == 0 {
		l.giveUp()
		l.look()
	}
}
