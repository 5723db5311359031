package recipe

import "herald/api"

// barrier is in as soon as Size nodes were there at one time.
type barrier struct{ own }

func (b *barrier) goOn() { b.enter(b.hearEntered) }

func (b *barrier) hearEntered(r api.Reply) {
	if b.waits(r) {
		b.watchAt(b.Base, api.WatchKids)
	}
}

func (b *barrier) see() {
	if b.held.Phase == api.HeldIn {
		return
	}
	picture := b.watch.picture
	rivals := b.rivalsIn(picture)
	switch {
	case len(rivals) >= b.Size:
		b.comeIn(picture.Stamp)
	case !b.isAmong(rivals):
		b.loseIfGone(picture)
	}
}
