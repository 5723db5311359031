package pair

import (
	"strings"

	"herald/api"
	"herald/ring"
)

// cause is why a core acts at a note: its own part, and the note's kind.
type cause struct {
	part part
	kind int
}

// takings are what a core does at the notes of the other one.
func (c *Core) takings() map[cause]func(api.Note) Act {
	return map[cause]func(api.Note) Act{
		{backup, api.NoteProbe}:  c.takeProbe,
		{backup, api.NoteAppend}: c.takeAppend,
		{backup, api.NoteFull}:   c.takeFull,
		{primary, api.NoteAcked}: c.takeAcked,
		{primary, api.NoteJoin}:  c.takeJoin,
	}
}

func (c *Core) takeProbe(api.Note) Act {
	var act Act
	act.send(c.other(), c.joining())
	return act
}

func (c *Core) takeAppend(n api.Note) Act {
	var act Act
	if !c.goesOn(n) {
		return act
	}
	act.write(c.match()...)
	// First what makes room for the entries, then what they brought the log up to.
	act.write(c.commitLike(n)...)
	act.write(c.add(n.Entries...)...)
	act.write(c.commitLike(n)...)
	act.send(c.other(), c.acking())
	return act
}

// goesOn tells whether an append goes on from an entry that is known to be the primary's too.
func (c *Core) goesOn(n api.Note) bool {
	for i, e := range n.Entries {
		if e.Stamp != n.Stamp+1+i || e.View > c.view.Num {
			return false
		}
	}
	last, of := c.log.Last()
	if c.isMatched() {
		return 0 <= n.Stamp && n.Stamp <= last
	}
	return n.Stamp == last && n.Of == of
}

// match makes a backup matched, if it is not so.
func (c *Core) match() []api.Record {
	if c.isMatched() {
		return nil
	}
	c.matched = c.view.Num
	return []api.Record{{Kind: api.RecordMatched, View: api.View{Num: c.matched}}}
}

// commitLike takes a primary's commit over, as far as the log goes.
func (c *Core) commitLike(n api.Note) []api.Record {
	last, _ := c.log.Last()
	return c.commitUpTo(min(n.Commit, last))
}

func (c *Core) takeFull(n api.Note) Act {
	var act Act
	isStamp := 0 <= n.Stamp && n.Stamp <= api.MaxNumber
	isOf := 0 <= n.Of && n.Of <= c.view.Num
	if !isStamp || !isOf || len(n.State) > api.MaxState {
		return act
	}
	if last, _ := c.log.Last(); !c.isMatched() || n.Stamp > last {
		act.write(c.reset(n))
	}
	act.send(c.other(), c.acking())
	return act
}

// reset puts a full transfer in the place of the log.
func (c *Core) reset(n api.Note) api.Record {
	c.log, _ = ring.New(c.room, n.Stamp, n.Of)
	c.commit, c.matched = n.Stamp, c.view.Num
	return api.Record{Kind: api.RecordReset, View: api.View{Num: c.matched}, Stamp: n.Stamp, Of: n.Of, State: strings.Clone(n.State)}
}

func (c *Core) takeAcked(n api.Note) Act {
	if _, there := c.viewAt(n.Stamp); !there {
		return Act{}
	}
	return c.peerHas(n.Stamp)
}

func (c *Core) takeJoin(n api.Note) Act {
	if of, there := c.viewAt(n.Stamp); there && of == n.Of {
		return c.peerHas(n.Stamp)
	}
	if c.peer == unknown {
		return Act{Want: []int{c.other()}}
	}
	return Act{}
}

// peerHas is what a primary does when it hears that the backup has all up to a stamp of the log.
func (c *Core) peerHas(stamp int) Act {
	var act Act
	isNews := stamp > c.peer
	c.peer = max(c.peer, stamp)
	act.write(c.commitUpTo(c.peer)...)
	if !c.active && c.peer >= c.base {
		act.send(service, c.settle())
	}
	if last, _ := c.log.Last(); isNews && c.peer < last {
		act.send(c.other(), c.appending())
	}
	return act
}
