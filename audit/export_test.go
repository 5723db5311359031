package audit

import "herald/api"

// Pictures are what a client sees in one of its sessions behind what it was told, by the watches' ids; what was told must be true.
func Pictures(history []api.Entry, told []api.Told, client, session int) map[int]api.Shot {
	a, looks := newItemAudit(history, told), itemLooks()
	for _, t := range told {
		if look := looks[t.Kind]; look != nil {
			look(a, t)
		}
	}
	return a.holderOf(api.Told{Client: client, Session: session}).pictures
}

// OfPanic is what the faces answer, if a look gives up with something else than an offence.
func OfPanic(found any) api.Errno { return offenceIn(found) }
