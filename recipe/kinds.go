package recipe

import "herald/api"

// kinds are what jobs may have, by their kinds.
var kinds = [...]struct {
	name        string // of the nodes, ahead of the five digits
	least, most int    // of Size
	hasData     bool
}{
	api.JobLock:    {name: "lock-", hasData: true},
	api.JobElect:   {name: "vote-", hasData: true},
	api.JobBarrier: {name: "wait-", hasData: true, least: 1, most: api.MaxNodes},
	api.JobCounter: {least: 1, most: api.MaxTimes},
	api.JobPut:     {name: "item-", hasData: true, least: 1, most: api.MaxTimes},
	api.JobTake:    {name: "item-", least: 1, most: api.MaxTimes},
}

// isJob tells whether there is a job of such a kind, size and data.
func isJob(wanted api.Job) bool {
	if wanted.Kind < api.JobLock || wanted.Kind > api.JobTake {
		return false
	}
	k := kinds[wanted.Kind]
	return k.least <= wanted.Size && wanted.Size <= k.most && (k.hasData || wanted.Data == "")
}

func jobOf(c common) job {
	switch c.Kind {
	case api.JobLock:
		return &lock{own{common: c}}
	case api.JobElect:
		return &election{own{common: c}}
	case api.JobBarrier:
		return &barrier{own{common: c}}
	case api.JobCounter:
		return &counter{times{c}}
	case api.JobPut:
		return &putter{times{c}}
	}
	return &taker{times{c}}
}
