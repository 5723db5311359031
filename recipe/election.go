package recipe

import "herald/api"

// election is in as long as its node is the first one, and knows who leads at any time.
type election struct{ own }

func (e *election) goOn() { e.enter(e.hearEntered) }

func (e *election) hearEntered(r api.Reply) {
	if e.waits(r) {
		e.watchAt(e.Base, api.WatchSubtree)
	}
}

func (e *election) see() {
	picture := e.watch.picture
	rivals := e.rivalsIn(picture)
	if !e.isAmong(rivals) {
		e.loseIfGone(picture)
		return
	}
	e.held.Values = []string{rivals[0].Data}
	if rivals[0].Place == e.held.Place && e.held.Phase != api.HeldIn {
		e.comeIn(picture.Stamp)
	}
}
