package recipe

import (
	"strconv"

	"herald/api"
)

// counter raises the number at Base.
type counter struct{ times }

func (c *counter) goOn() { c.ask(c.hearNumber, opAt(api.OpGet, c.Base)) }

func (c *counter) hearNumber(r api.Reply) {
	switch r.Code {
	case api.OK:
		c.raise(r.Results[0])
	case api.ErrNoNode:
		c.askBase(c.goOn)
	default:
		c.lose(r.Code)
	}
}

// raise sets the next number, if nobody else has set one meanwhile.
func (c *counter) raise(at api.Result) {
	number, err := strconv.Atoi(at.Data)
	switch {
	case err != nil || number < 0 || number > api.MaxNumber || strconv.Itoa(number) != at.Data:
		c.lose(api.ErrJob)
	case number == api.MaxNumber:
		c.lose(api.ErrNumber)
	default:
		c.askFor(c.takeNumber, c.hearSet, api.Op{Kind: api.OpSet, Place: c.Base, Data: strconv.Itoa(number + 1), Version: at.Version})
	}
}

func (c *counter) takeNumber(r api.Reply) { c.add(c.open.ops[0].Data, r.Stamp) }

func (c *counter) hearSet(r api.Reply) {
	switch r.Code {
	case api.OK:
		if !c.isThrough() {
			c.goOn()
		}
	case api.ErrVersion, api.ErrNoNode:
		c.goOn()
	default:
		c.lose(r.Code)
	}
}
