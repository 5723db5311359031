package queue

import (
	"slices"
	"strings"

	"herald/api"
)

// orZero is the queue, or a zero one in the place of none: the two answer alike.
func (q *Queue) orZero() *Queue {
	if q == nil {
		return &Queue{}
	}
	return q
}

// mayFollow tells whether an item with that stamp may stand behind the last one; says: it has what such an item must have.
func (q *Queue) mayFollow(stamp int, says bool) api.Errno {
	if stamp > api.MaxNumber {
		return api.ErrNumber
	}
	if stamp <= q.last || !says {
		return api.ErrQueue
	}
	return api.OK
}

// areTagged tells whether there are changes, and each is for a watch.
func areTagged(changes []api.Tagged) bool {
	return len(changes) > 0 && !slices.ContainsFunc(changes, func(c api.Tagged) bool { return len(c.Tags) == 0 })
}

// at is the place of an item, the first one's for 0.
func (q *Queue) at(number int) *api.Item {
	ring := q.places[:q.room]
	return &ring[(q.first+number)%len(ring)]
}

// begin is the stamp behind which the items follow.
func (q *Queue) begin() int {
	if q.count == 0 {
		return q.last
	}
	return q.at(0).After
}

// add puts an item, for which there is room, behind the others.
func (q *Queue) add(item api.Item) {
	*q.at(q.count) = item
	q.count++
	q.last = item.Stamp
}

// takeOff takes so many items away, from the first on.
func (q *Queue) takeOff(number int) {
	for range number {
		// Nothing of it is held on to.
		*q.at(0) = api.Item{}
		q.first = (q.first + 1) % q.room
		q.count--
	}
}

// own is an item that shares no memory with the one that is given.
func own(item api.Item) api.Item {
	item.Changes = copies(item.Changes, ownTagged)
	item.Parts = copies(item.Parts, ownPart)
	return item
}

func ownTagged(c api.Tagged) api.Tagged {
	c.Change.Place = strings.Clone(c.Change.Place)
	c.Change.Data = strings.Clone(c.Change.Data)
	c.Tags = copies(c.Tags, func(id int) int { return id })
	return c
}

func ownPart(p api.Part) api.Part {
	p.Shot.Place = strings.Clone(p.Shot.Place)
	p.Shot.Nodes = copies(p.Shot.Nodes, ownSeen)
	return p
}

func ownSeen(n api.Seen) api.Seen {
	n.Place = strings.Clone(n.Place)
	n.Data = strings.Clone(n.Data)
	return n
}

// copies is a new list without spare room, each element copied by itself.
func copies[T any](list []T, own func(T) T) []T {
	if len(list) == 0 {
		return nil
	}
	out := make([]T, len(list))
	for i, x := range list {
		out[i] = own(x)
	}
	return out
}
