package pair

import "herald/api"

// service is the address of the service that chooses views.
const service = 0

// unknown is what a primary knows of its backup at first: it is below every stamp.
const unknown = -1

// part is what a core is in its view.
type part int

const (
	noPart part = iota
	backup
	primary // with a backup
	lonePrimary
)

// isNone tells whether nobody made the core.
func (c *Core) isNone() bool {
	return c == nil || c.log == nil
}

func isNode(number int) bool {
	return 1 <= number && number <= api.MaxPeers
}

func (c *Core) part() part {
	switch {
	case c.self == c.view.Backup:
		return backup
	case c.self != c.view.Primary:
		return noPart
	case c.view.Backup == 0:
		return lonePrimary
	}
	return primary
}

// other is the other member of the core's view, or 0: nobody.
func (c *Core) other() int {
	switch c.part() {
	case backup:
		return c.view.Primary
	case primary:
		return c.view.Backup
	}
	return 0
}

// isMatched tells of a backup whether its log is known to be a beginning of its primary's.
func (c *Core) isMatched() bool {
	return c.matched == c.view.Num
}

func (c *Core) mayAdopt(v api.View) bool {
	isLater := c.view.Num < v.Num && v.Num <= api.MaxNumber
	return isLater && isNode(v.Primary) && (v.Backup == 0 || isNode(v.Backup)) && v.Backup != v.Primary
}

// begin is what a core does as soon as it has its view, behind the records by which it got it.
func (c *Core) begin(ahead ...api.Record) Act {
	last, _ := c.log.Last()
	c.peer, c.base, c.active = unknown, last, false
	var act Act
	act.write(ahead...)
	switch c.part() {
	case backup:
		act.send(c.other(), c.joining())
	case primary:
		act.send(c.other(), c.note(api.NoteProbe))
	case lonePrimary:
		act.write(c.commitUpTo(last)...)
		act.send(service, c.settle())
	}
	return act
}

// settle makes a primary active: from now on it takes requests. The note tells the service.
func (c *Core) settle() api.Note {
	c.active = true
	return c.note(api.NoteSettled)
}
