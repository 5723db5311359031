package pair

import "herald/api"

// gather puts records behind others.
func gather(records []api.Record, more ...api.Record) []api.Record {
	return append(records, more...)
}

// write puts records behind those of the act.
func (a *Act) write(records ...api.Record) {
	a.Records = gather(a.Records, records...)
}

// send puts a note behind those of the act.
func (a *Act) send(to int, n api.Note) {
	a.Notes = append(a.Notes, Out{To: to, Note: n})
}

// note is a note of the core's view.
func (c *Core) note(kind int) api.Note {
	return api.Note{Kind: kind, View: api.View{Num: c.view.Num}}
}

// joining tells a primary how far the log goes.
func (c *Core) joining() api.Note {
	n := c.note(api.NoteJoin)
	n.Stamp, n.Of = c.log.Last()
	return n
}

// acking tells a primary up to where the log is like its own.
func (c *Core) acking() api.Note {
	n := c.note(api.NoteAcked)
	n.Stamp, _ = c.log.Last()
	return n
}

// appending brings a backup that is known to have something what comes next.
func (c *Core) appending() api.Note {
	n := c.note(api.NoteAppend)
	n.Stamp = c.peer
	n.Of, _ = c.viewAt(c.peer)
	n.Entries, _ = c.log.After(c.peer, api.MaxBatch)
	n.Commit = c.commit
	return n
}

// reminder is what a primary says again and again, as any note may be lost.
func (c *Core) reminder() api.Note {
	if c.peer == unknown {
		return c.note(api.NoteProbe)
	}
	return c.appending()
}
