package drill

import "herald/api"

// Want puts wishes behind those of a client, such as no recipe has, or at a time at which none has them.
func (d *Drill) Want(client int, wishes ...api.Wish) {
	(&turn{Drill: d}).want(client, wishes...)
}
