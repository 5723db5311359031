package journal

import "herald/api"

// kind is one kind of records.
type kind interface {
	// without is a record without what this kind has.
	without(r api.Record) api.Record
	// mayBe leaves out what shows as a record is written or read: that a number is from 0 to MaxNumber, and that an entry may be encoded.
	mayBe(r api.Record) bool
	write(r api.Record) []byte
	read(b *body) api.Record
	// fits tells whether a record can follow on what has been said so far.
	fits(said *story, r api.Record) bool
	// tell puts what a record that fits says behind what has been said so far.
	tell(said *story, r api.Record)
}

// kindOf gives up on a number that is no kind's.
func kindOf(number int) kind {
	switch number {
	case api.RecordEntry:
		return entryKind{}
	case api.RecordView:
		return viewKind{}
	case api.RecordMatched:
		return matchedKind{}
	case api.RecordReset:
		return resetKind{}
	case api.RecordSave:
		return saveKind{}
	case api.RecordCommit:
		return commitKind{}
	}
	panic(unfit{})
}

// mustBe gives up on a record of that kind that may not be, as far as writing it does not.
func mustBe(k kind, r api.Record) {
	must(len(r.State) <= api.MaxState && k.mayBe(r))
	rest := k.without(r)
	must(isZeroEntry(rest.Entry) && rest.View == api.View{} && rest.Stamp == 0 && rest.Of == 0 && rest.State == "")
}

func isZeroEntry(e api.Entry) bool {
	return e.Stamp == 0 && e.View == 0 && e.Kind == 0 && e.Session == 0 && e.Request == 0 && len(e.Ops) == 0
}

type entryKind struct{}

func (entryKind) without(r api.Record) api.Record {
	r.Entry = api.Entry{}
	return r
}

func (entryKind) mayBe(api.Record) bool { return true }

func (entryKind) write(r api.Record) []byte { return entryBytes(r.Entry) }

func (entryKind) read(b *body) api.Record { return api.Record{Entry: b.entry()} }

func (entryKind) fits(said *story, r api.Record) bool {
	last := said.last()
	return r.Entry.Stamp == last+1 && r.Entry.View >= said.viewAt(last)
}

func (entryKind) tell(said *story, r api.Record) {
	said.Entries = append(said.Entries, r.Entry)
}

type viewKind struct{}

func (viewKind) without(r api.Record) api.Record {
	r.View = api.View{}
	return r
}

func (viewKind) mayBe(r api.Record) bool {
	v := r.View
	return v.Num >= 1 && 1 <= v.Primary && v.Primary <= api.MaxPeers && v.Backup <= api.MaxPeers && v.Backup != v.Primary
}

func (viewKind) write(r api.Record) []byte {
	return numbers(r.View.Num, r.View.Primary, r.View.Backup)
}

func (viewKind) read(b *body) api.Record {
	return api.Record{View: api.View{Num: b.number(), Primary: b.number(), Backup: b.number()}}
}

func (viewKind) fits(said *story, r api.Record) bool { return r.View.Num > said.View.Num }

func (viewKind) tell(said *story, r api.Record) { said.View = r.View }

type matchedKind struct{}

func (matchedKind) without(r api.Record) api.Record {
	r.View.Num = 0
	return r
}

func (matchedKind) mayBe(r api.Record) bool { return r.View.Num >= 1 }

func (matchedKind) write(r api.Record) []byte { return numbers(r.View.Num) }

func (matchedKind) read(b *body) api.Record {
	return api.Record{View: api.View{Num: b.number()}}
}

func (matchedKind) fits(said *story, r api.Record) bool { return r.View.Num == said.View.Num }

func (matchedKind) tell(said *story, r api.Record) { said.Matched = r.View.Num }

// resetKind is a match and a save in one record, but it leaves nothing of what was there.
type resetKind struct{}

func (resetKind) without(r api.Record) api.Record {
	return matchedKind{}.without(saveKind{}.without(r))
}

func (resetKind) mayBe(r api.Record) bool { return matchedKind{}.mayBe(r) }

func (resetKind) write(r api.Record) []byte {
	return append(matchedKind{}.write(r), saveKind{}.write(r)...)
}

func (resetKind) read(b *body) api.Record {
	view := matchedKind{}.read(b).View
	r := saveKind{}.read(b)
	r.View = view
	return r
}

func (resetKind) fits(said *story, r api.Record) bool { return matchedKind{}.fits(said, r) }

func (resetKind) tell(said *story, r api.Record) {
	matchedKind{}.tell(said, r)
	said.begin(r)
	said.Entries, said.Commit = nil, r.Stamp
}

type saveKind struct{}

func (saveKind) without(r api.Record) api.Record {
	r.Stamp, r.Of, r.State = 0, 0, ""
	return r
}

func (saveKind) mayBe(api.Record) bool { return true }

func (saveKind) write(r api.Record) []byte {
	return append(numbers(r.Stamp, r.Of), text(r.State)...)
}

func (saveKind) read(b *body) api.Record {
	return api.Record{Stamp: b.number(), Of: b.number(), State: b.text()}
}

func (saveKind) fits(said *story, r api.Record) bool {
	if said.records == 0 {
		return true
	}
	return said.Stamp <= r.Stamp && r.Stamp <= said.Commit && r.Of == said.viewAt(r.Stamp)
}

func (saveKind) tell(said *story, r api.Record) {
	// A first save is of any stamp, and there are no entries to go.
	gone := min(r.Stamp-said.Stamp, len(said.Entries))
	said.Entries = said.Entries[gone:]
	said.begin(r)
	said.Commit = max(said.Commit, r.Stamp)
}

type commitKind struct{}

func (commitKind) without(r api.Record) api.Record {
	r.Stamp = 0
	return r
}

func (commitKind) mayBe(api.Record) bool { return true }

func (commitKind) write(r api.Record) []byte { return numbers(r.Stamp) }

func (commitKind) read(b *body) api.Record { return api.Record{Stamp: b.number()} }

func (commitKind) fits(said *story, r api.Record) bool {
	return said.Commit < r.Stamp && r.Stamp <= said.last()
}

func (commitKind) tell(said *story, r api.Record) { said.Commit = r.Stamp }
