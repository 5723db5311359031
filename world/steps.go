package world

import (
	"maps"
	"slices"

	"herald/api"
	"herald/client"
)

const (
	mostRounds   = 64
	mostArrivals = 1024 // of a round
)

// kinds are those of steps. What each does stands at the same place of rows.
var kinds = [...]int{
	api.StepDeliver, api.StepDrop, api.StepDouble, api.StepSpoil,
	api.StepTick, api.StepCrash, api.StepWithin, api.StepRestart,
	api.StepPromote, api.StepSave,
	api.StepDo, api.StepWatch, api.StepUnwatch, api.StepBegin, api.StepEnd,
	api.StepCalm,
}

// row is what the steps of a kind do.
type row struct {
	mayBe func(s api.Step) bool // nil: all may
	play  func(t *turn) api.Errno
}

func rows() []row {
	return []row{
		{play: onMessage((*turn).arrive)},
		{play: onMessage((*turn).drop)},
		{play: onMessage((*turn).double)},
		{play: onMessage((*turn).spoil), mayBe: func(s api.Step) bool { return 1 <= s.C && s.C <= 255 }},
		{play: (*turn).tick},
		{play: onNode((*turn).crash)},
		{play: onMessage((*turn).within)},
		{play: (*turn).restart},
		{play: (*turn).promote},
		{play: onNode((*turn).save)},
		{play: onClient(do)},
		{play: onClient(watch)},
		{play: onClient(unwatch)},
		{play: onClient(begin)},
		{play: onClient(end)},
		{play: (*turn).calm, mayBe: func(s api.Step) bool { return 1 <= s.A && s.A <= mostRounds }},
	}
}

// turn is a step that is played, with what the clients were told or did in it so far.
type turn struct {
	*World
	step   api.Step
	number int
	told   []api.Told
}

func (t *turn) play() api.Errno {
	for i, kind := range kinds {
		if kind != t.step.Kind {
			continue
		}
		r := rows()[i]
		if r.mayBe != nil && !r.mayBe(t.step) {
			return api.ErrStep
		}
		return r.play(t)
	}
	return api.ErrStep
}

// onMessage plays with the message of which the step speaks.
func onMessage(play func(t *turn, number int) api.Errno) func(*turn) api.Errno {
	return func(t *turn) api.Errno {
		numbers := t.line.Numbers()
		if len(numbers) == 0 {
			return api.ErrFlight
		}
		return play(t, numbers[countedRound(t.step.A, len(numbers))])
	}
}

// onNode plays with the node of which the step speaks, if it runs.
func onNode(play func(t *turn, s *server) api.Errno) func(*turn) api.Errno {
	return func(t *turn) api.Errno {
		switch t.ownerOf(t.step.A) {
		case running:
			return play(t, t.servers[t.step.A])
		case stopped:
			return api.ErrDown
		}
		return api.ErrStep
	}
}

// onClient lets the client of which the step speaks do something.
func onClient(wish func(c *client.Client, s api.Step) ([]api.Told, []api.Message, api.Errno)) func(*turn) api.Errno {
	return func(t *turn) api.Errno {
		address := clientsBehind + t.step.A
		c := t.clients[address]
		if c == nil {
			return api.ErrStep
		}
		told, messages, code := wish(c, t.step)
		if code == api.OK {
			t.clientDid(address, told, messages)
		}
		return code
	}
}

func (t *turn) drop(number int) api.Errno {
	_, code := t.line.Take(number)
	return code
}

func (t *turn) double(number int) api.Errno {
	_, code := t.line.Double(number)
	return code
}

func (t *turn) spoil(number int) api.Errno {
	m, code := t.line.Look(number)
	if code != api.OK {
		return code
	}
	return t.line.Spoil(number, countedRound(t.step.B, len(m.Bytes)), t.step.C)
}

func (t *turn) tick() api.Errno {
	switch t.ownerOf(t.step.A) {
	case theService:
		return api.OK
	case someClient:
		t.tickClient(t.step.A)
		return api.OK
	}
	return onNode((*turn).tickNode)(t)
}

func (t *turn) crash(s *server) api.Errno {
	s.node = nil
	return api.OK
}

// within lets a node take a message and stop ahead of sending anything, with only a beginning of what it wrote on its disk.
func (t *turn) within(number int) api.Errno {
	m, code := t.line.Look(number)
	if code != api.OK {
		return code
	}
	if t.ownerOf(m.To) != running {
		return api.ErrStep
	}
	t.drop(number)
	s := t.servers[m.To]
	written, _ := s.node.Take(m)
	s.disk = append(s.disk, written[:countedRound(t.step.B, len(written)+1)]...)
	return t.crash(s)
}

func (t *turn) restart() api.Errno {
	if t.ownerOf(t.step.A) != stopped {
		return api.ErrStep
	}
	return t.start(t.step.A)
}

func (t *turn) promote() api.Errno {
	return t.service.Promote(t.step.A, t.step.B)
}

func (t *turn) save(s *server) api.Errno {
	written, messages := s.node.Save()
	t.nodeDid(s, written, messages)
	return api.OK
}

func (t *turn) calm() api.Errno {
	for range t.step.A {
		t.round()
	}
	return api.OK
}

// round lets everybody tick, and then messages arrive till there are none, but not for ever.
func (t *turn) round() {
	for _, address := range slices.Sorted(maps.Keys(t.servers)) {
		if t.ownerOf(address) == running {
			t.tickNode(t.servers[address])
		}
	}
	for _, address := range slices.Sorted(maps.Keys(t.clients)) {
		t.tickClient(address)
	}
	for range mostArrivals {
		numbers := t.line.Numbers()
		if len(numbers) == 0 {
			return
		}
		t.arrive(numbers[0])
	}
}

func do(c *client.Client, s api.Step) ([]api.Told, []api.Message, api.Errno) {
	return c.Do(s.Ops...)
}

func watch(c *client.Client, s api.Step) ([]api.Told, []api.Message, api.Errno) {
	return c.Watch(s.Place, s.B)
}

func unwatch(c *client.Client, s api.Step) ([]api.Told, []api.Message, api.Errno) {
	return c.Unwatch(s.B)
}

func begin(c *client.Client, _ api.Step) ([]api.Told, []api.Message, api.Errno) {
	return c.Begin()
}

func end(c *client.Client, _ api.Step) ([]api.Told, []api.Message, api.Errno) {
	return c.End()
}

// countedRound is a place among so many, for any number.
func countedRound(number, count int) int {
	if count == 0 {
		return 0
	}
	return (number%count + count) % count
}
