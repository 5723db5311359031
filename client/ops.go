package client

import (
	"strings"

	"herald/api"
)

// checkOps tells whether ops may be sent: what is too long is found ahead of wrong numbers, in whichever op it is.
func checkOps(ops []api.Op) api.Errno {
	if len(ops) > api.MaxOps {
		return api.ErrLong
	}
	for _, o := range ops {
		if len(o.Place) > api.MaxRaw || len(o.Data) > api.MaxRaw {
			return api.ErrLong
		}
	}
	for _, o := range ops {
		if !isFrom(0, o.Kind) || !isFrom(0, o.Flags) || !isFrom(-1, o.Version) {
			return api.ErrArg
		}
	}
	return api.OK
}

func isFrom(least, number int) bool { return least <= number && number <= api.MaxNumber }

func copiedOps(ops []api.Op) []api.Op {
	list := make([]api.Op, len(ops))
	for i, o := range ops {
		o.Place, o.Data = strings.Clone(o.Place), strings.Clone(o.Data)
		list[i] = o
	}
	return list
}
