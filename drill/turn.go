package drill

import (
	"slices"

	"herald/api"
	"herald/recipe"
)

// turn is a step that is played, with what the clients were told or did in it so far.
type turn struct {
	*Drill
	told []api.Told
}

// play plays a step of a script. That a recipe ends is nothing that a world knows of.
func (t *turn) play(s api.Step) api.Errno {
	if s.Kind == api.StepLeave {
		t.want(s.A, t.recipes[s.A].Leave()...)
		return api.OK
	}
	told, code := t.world.Step(s)
	t.tell(told...)
	return code
}

// tell tells things, and lets the recipes of their clients hear them.
func (t *turn) tell(things ...api.Told) {
	t.told = append(t.told, things...)
	for _, x := range things {
		if m := t.recipes[x.Client]; m != nil {
			t.hear(m, x)
		}
	}
}

// hear: what was wished for in a session must not be done in the next one.
func (t *turn) hear(m *recipe.Machine, x api.Told) {
	if x.Kind == api.ToldEnd || x.Kind == api.ToldGone {
		delete(t.wishes, x.Client)
	}
	t.want(x.Client, m.Hear(x)...)
	if x.Kind == api.ToldBegun {
		t.want(x.Client, m.Begin()...)
	}
}

// want puts wishes behind those of a client.
func (t *turn) want(client int, wishes ...api.Wish) {
	t.wishes[client] = append(t.wishes[client], wishes...)
}

// doWishes does all that can be done now.
func (t *turn) doWishes() {
	for t.pass() {
	}
}

// pass lets each client do what it can, and tells whether any of them did something.
func (t *turn) pass() bool {
	isDone := false
	for i := range t.clients {
		for t.doFirst(i + 1) {
			isDone = true
		}
	}
	return isDone
}

// doFirst tries the first wish of a client, and tells whether it is off the list.
func (t *turn) doFirst(client int) bool {
	wishes := t.wishes[client]
	if len(wishes) == 0 {
		return false
	}
	told, code := t.attempt(client, wishes[0])
	if code == api.ErrClient || code == api.ErrFull { // not for now
		return false
	}
	t.wishes[client] = slices.Delete(wishes, 0, 1)
	t.tell(told...)
	return true
}
