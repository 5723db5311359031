package drill

import "herald/api"

// row is how wishes of a kind are done.
type row struct {
	kind int
	do   func(d *Drill, client int, w api.Wish) ([]api.Told, api.Errno)
}

func rows() []row {
	return []row{
		{api.WishDo, (*Drill).request},
		{api.WishWatch, (*Drill).watch},
		{api.WishUnwatch, (*Drill).unwatch},
	}
}

// attempt does a wish of a client, if it is of a kind that can be done.
func (d *Drill) attempt(client int, w api.Wish) ([]api.Told, api.Errno) {
	for _, r := range rows() {
		if r.kind == w.Kind {
			return r.do(d, client, w)
		}
	}
	return nil, api.ErrStep
}

func (d *Drill) request(client int, w api.Wish) ([]api.Told, api.Errno) {
	return d.world.Step(api.Step{Kind: api.StepDo, A: client, Ops: w.Ops})
}

func (d *Drill) watch(client int, w api.Wish) ([]api.Told, api.Errno) {
	return d.world.Step(api.Step{Kind: api.StepWatch, A: client, B: w.Watch, Place: w.Place})
}

func (d *Drill) unwatch(client int, w api.Wish) ([]api.Told, api.Errno) {
	return d.world.Step(api.Step{Kind: api.StepUnwatch, A: client, B: w.Id})
}
