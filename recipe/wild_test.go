package recipe_test

import (
	"math"
	"testing"

	"herald/api"
	"herald/recipe"
)

// wildNumber and wildText are what no client would tell.
func (c chance) wildNumber() int {
	return pick(c, 0, 1, 1, 2, 3, 4, 5, -1, 12, 70, api.MaxNumber, api.MaxNumber+1, math.MaxInt, math.MinInt)
}

func (c chance) wildText() string {
	return pick(c, "", "/", "/l", "l", "/l/", "//", "/l/lock-00003", "/l/vote-00003", "/l/wait-00003", "/l/item-00003", "lock-00003", "item-00003", "7", "2147483647", "\xff", deep(7), deep(200))
}

func (c chance) wildOps() []api.Op {
	var ops []api.Op
	for range c.IntN(3) {
		ops = append(ops, api.Op{Kind: c.wildNumber(), Place: c.wildText(), Data: c.wildText(), Version: c.wildNumber(), Flags: c.wildNumber()})
	}
	return ops
}

func (c chance) wildShot() api.Shot {
	s := shotOf(c.wildNumber(), c.wildText(), c.wildNumber())
	for range c.IntN(4) {
		s.Nodes = append(s.Nodes, api.Seen{Place: c.wildText(), Data: c.wildText(), Version: c.wildNumber()})
	}
	return s
}

func (c chance) wildReply() api.Reply {
	r := refusal(c.wildNumber(), api.Errno(pick(c, 0, 0, 0, c.wildNumber())))
	for range c.IntN(4) {
		result := api.Result{Place: c.wildText(), Data: c.wildText(), Version: c.wildNumber(), Made: c.wildNumber()}
		for range c.IntN(3) {
			result.Kids = append(result.Kids, c.wildText())
		}
		r.Results = append(r.Results, result)
	}
	return r
}

func (c chance) wildItem(id int) api.Item {
	item := api.Item{Stamp: c.wildNumber(), After: c.wildNumber(), Marker: c.IntN(2) == 0}
	for range c.IntN(3) {
		change := api.Change{Kind: c.wildNumber(), Place: c.wildText(), Data: c.wildText(), Version: c.wildNumber()}
		item.Changes = append(item.Changes, api.Tagged{Change: change, Tags: pick(c, nil, []int{id}, []int{id, id}, []int{9, id})})
	}
	for range c.IntN(3) {
		item.Parts = append(item.Parts, api.Part{Id: pick(c, id, id, c.wildNumber()), Shot: c.wildShot()})
	}
	return item
}

func (c chance) wildTold(l *life) api.Told {
	watch := pick(c, l.watch, watchOf(api.JobLock), watches(c.wildText(), c.wildNumber()))
	id := pick(c, l.id, l.id, c.wildNumber())
	ops := l.ops
	if c.IntN(3) == 0 {
		ops = c.wildOps()
	}
	return api.Told{
		Kind: pick(c, c.wildNumber(), 1+c.IntN(10)), Step: c.wildNumber(), Client: c.wildNumber(), Session: c.wildNumber(), Stamp: c.wildNumber(),
		Request: pick(c, l.request, l.request, c.wildNumber()), Code: api.Errno(pick(c, 0, c.wildNumber())), Ops: ops, Reply: c.wildReply(),
		Watch: api.Watch{Id: id, Place: watch.Place, Kind: watch.Watch, From: c.wildNumber()}, Item: c.wildItem(id), Part: api.Part{Id: id, Shot: c.wildShot()},
	}
}

// TestWild: W1, whatever a machine hears, in whatever standing: each call ends, and none panics.
func TestWild(t *testing.T) {
	t.Parallel()
	for i, s := range standings() {
		for seed := range uint64(40) {
			c := chanceOf(seed, uint64(400+i))
			l := s.live(t)
			for range 30 {
				switch c.IntN(20) {
				case 0:
					l.m.Leave()
				case 1:
					l.m.Begin()
				default:
					l.m.Hear(c.wildTold(l))
				}
				if held := l.m.Sight(); held.Phase < api.HeldOut || held.Phase > api.HeldDone {
					t.Fatalf("%s, seed %d: Sight is %+v", s, seed, held)
				}
			}
		}
	}
}

// TestWildJobs: W1, New of whatever.
func TestWildJobs(t *testing.T) {
	c := chanceOf(1, 401)
	for range 20000 {
		job := api.Job{Kind: pick(c, 1+c.IntN(6), c.wildNumber()), Base: c.wildText(), Data: c.wildText(), Size: c.wildNumber()}
		if m, code := recipe.New(job); (m == nil) != (code != api.OK) || code != api.OK && code != api.ErrLong && code != api.ErrJob && code != api.ErrPlace {
			t.Errorf("P20.1: New(%+v) says %d", job, code)
		}
	}
}
