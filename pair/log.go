package pair

import (
	"herald/api"
	"herald/journal"
	"herald/ring"
)

// mayStart tells whether a core with so much room can be as the journal says.
func mayStart(room int, s api.Saved) bool {
	for _, e := range s.Entries {
		if e.View > s.View.Num {
			return false
		}
	}
	open := s.Stamp + len(s.Entries) - s.Commit
	return s.Of <= s.View.Num && open <= room && mayBe(s)
}

// mayBe tells whether records of a journal can say this, whatever the ops of its entries are.
func mayBe(s api.Saved) bool {
	bare := make([]api.Entry, len(s.Entries))
	for i, e := range s.Entries {
		e.Ops = nil
		bare[i] = e
	}
	s.Entries = bare
	_, _, code := journal.Compact(s)
	return code == api.OK
}

// logOf is the log of a core with so much room over what a journal says.
func logOf(room int, s api.Saved) *ring.Ring {
	floor, of, entries := s.Stamp, s.Of, s.Entries
	if over := len(entries) - room; over > 0 {
		floor, of = entries[over-1].Stamp, entries[over-1].View
		entries = entries[over:]
	}
	log, _ := ring.New(room, floor, of)
	for _, e := range entries {
		log.Append(e)
	}
	log.Hold(s.Commit)
	return log
}

// viewAt is the view of the entry with a stamp from the floor to the last; of any other stamp it says false.
func (c *Core) viewAt(stamp int) (int, bool) {
	if floor, of := c.log.Floor(); stamp == floor {
		return of, true
	}
	e, code := c.log.At(stamp)
	return e.View, code == api.OK
}

// add puts entries behind the last one, as long as the log takes them; those that it has already are left out. What is to be written is taken out of the log again, so that it is memory of its own.
func (c *Core) add(entries ...api.Entry) []api.Record {
	var records []api.Record
adding:
	for _, e := range entries {
		last, _ := c.log.Last()
		switch {
		case e.Stamp <= last:
			continue
		case c.log.Append(e) != api.OK:
			break adding
		}
		own, _ := c.log.At(e.Stamp)
		records = gather(records, api.Record{Kind: api.RecordEntry, Entry: own})
	}
	return records
}

// commitUpTo raises the commit to a stamp of the log; it never lowers it.
func (c *Core) commitUpTo(stamp int) []api.Record {
	if stamp <= c.commit {
		return nil
	}
	c.commit = stamp
	c.log.Hold(stamp)
	return []api.Record{{Kind: api.RecordCommit, Stamp: stamp}}
}
