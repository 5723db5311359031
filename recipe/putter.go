package recipe

import (
	"strings"

	"herald/api"
)

// putter puts items into the queue at Base.
type putter struct{ times }

func (p *putter) goOn() {
	p.askFor(p.takePut, p.hearPut, api.Op{Kind: api.OpMake, Place: p.below(p.nodeName()), Data: p.Data, Flags: api.FlagCounted})
}

func (p *putter) takePut(r api.Reply) {
	p.held.Place = strings.Clone(r.Results[0].Place)
	p.add(p.Data, r.Stamp)
}

func (p *putter) hearPut(r api.Reply) {
	if r.Code != api.OK {
		p.lose(r.Code)
		return
	}
	if !p.isThrough() {
		p.goOn()
	}
}
