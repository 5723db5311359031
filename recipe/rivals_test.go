package recipe_test

import (
	"slices"
	"testing"

	"herald/api"
)

// strangers are names that are no rivals' of a kind of job.
func strangers(kind int) []string {
	name := nameOf(kind)
	all := []string{"", "a", "00000", name, name + "0", name + "0000", name + "000000", name + "0000000000", name + "0000a", name + "a0000", name + "00a00", name + "0000-", name + "-0000", name + "+0000", name + " 0000", name + "0000\x00", name + "0000.", name + "٠٠٠", name + "０００００", "x" + name + "00000", name[1:] + "00000", name[:4] + "00000", name + "/0000", "/" + name + "00000", "A" + name[1:] + "00000", name + name + "00000"}
	for _, other := range []string{"lock-", "vote-", "wait-", "item-", "Lock-", "lock_"} {
		if other != name {
			all = append(all, other+"00000")
		}
	}
	return all
}

// TestRivalsInLists: the rivals in a list of names are those with just five digits, in the order of their names, wherever they stand.
func TestRivalsInLists(t *testing.T) {
	lock := func(names ...string) *life {
		l := born(t, jobOf(api.JobLock))
		entered(l)
		l.calls()
		return l
	}
	names := append(strangers(api.JobLock), "lock-00003")
	l := lock()
	l.answers(kids(6, names...))
	l.shows(api.HeldIn, "/l/lock-00003", 6, api.OK)
	for _, c := range []struct {
		names []string
		ahead string
	}{
		{[]string{"lock-00002", "lock-00003"}, "00002"},
		{[]string{"lock-00003", "lock-00002"}, "00002"},
		{[]string{"lock-00003", "lock-00002", "lock-00001", "lock-00000"}, "00002"},
		{[]string{"lock-00004", "lock-00000", "lock-99999", "lock-00003", "lock-00001"}, "00001"},
		{[]string{"lock-00004", "lock-00003", "lock-00000"}, "00000"},
	} {
		l := lock()
		l.answers(kids(6, append(strangers(api.JobLock), c.names...)...), watches("/l/lock-"+c.ahead, api.WatchNode))
		l = lock()
		l.answers(kids(6, append(slices.Clone(c.names), strangers(api.JobLock)...)...), watches("/l/lock-"+c.ahead, api.WatchNode))
	}
	l = lock()
	l.answers(kids(6, append(strangers(api.JobLock), "lock-00001", "lock-00002", "lock-00004")...))
	l.shows(api.HeldOut, "", 0, api.ErrNoNode)
	taker := born(t, jobOf(api.JobTake))
	basedCalled(taker)
	taker.answers(kids(6, strangers(api.JobTake)...), watches("/l", api.WatchKids))
	taker = born(t, jobOf(api.JobTake))
	basedCalled(taker)
	taker.answers(kids(6, append(strangers(api.JobTake), "item-70000", "item-00012", "item-00007")...), does(gets("/l/item-00007"), drops("/l/item-00007")))
}

// strangePlaces are places that are no rivals' of a kind of job with the base /l, as they may be in a picture of the subtree of / or /l.
func strangePlaces(kind int) []string {
	name := nameOf(kind)
	places := []string{"/l/other", "/l/" + name, "/l/" + name + "0000", "/l/" + name + "000000", "/l/" + name + "0000a", "/l/x" + name + "00000", "/l/" + name + "00009.x", "/" + name + "00000", "/m", "/m/" + name + "00000", "/l/deep", "/l/deep/" + name + "00000"}
	for _, other := range []string{"lock-", "vote-", "wait-", "item-"} {
		if other != name {
			places = append(places, "/l/"+other+"00000")
		}
	}
	return places
}

// TestRivalsInPictures: the rivals in a picture are the places with Base as their parent and such a name.
func TestRivalsInPictures(t *testing.T) {
	// The parts may be of any place: nothing is said of the place and kind that a part must have.
	whole := func(places ...string) []api.Seen {
		nodes := bare(append([]string{"/", "/l"}, places...)...)
		slices.SortFunc(nodes, byPlace)
		return nodes
	}
	b := born(t, api.Job{Kind: api.JobBarrier, Base: "/l", Size: 2})
	waitingKnown(b)
	nodes := whole(append(strangePlaces(api.JobBarrier), "/l/wait-00003")...)
	b.hears(granted(1, shotOf(6, "/", api.WatchSubtree, nodes...)))
	b.shows(api.HeldWaiting, "/l/wait-00003", 0, api.OK)
	nodes = whole(append(strangePlaces(api.JobBarrier), "/l/wait-00003", "/l/wait-00007")...)
	b.hears(taken(marker(8, api.Part{Id: 1, Shot: shotOf(8, "/", api.WatchSubtree, nodes...)})))
	b.shows(api.HeldIn, "/l/wait-00003", 8, api.OK)

	e := born(t, jobOf(api.JobElect))
	waitingKnown(e)
	nodes = whole(append(strangePlaces(api.JobElect), "/l/vote-00003", "/l/vote-00005")...)
	for i := range nodes {
		nodes[i].Data = "of " + nodes[i].Place
	}
	e.hears(granted(1, shotOf(6, "/", api.WatchSubtree, nodes...)))
	e.shows(api.HeldIn, "/l/vote-00003", 6, api.OK, "of /l/vote-00003")

	q := born(t, jobOf(api.JobTake))
	waitingKnown(q)
	q.hears(granted(1, shotOf(6, "/", api.WatchSubtree, whole(strangePlaces(api.JobTake)...)...)))
	nodes = whole(append(strangePlaces(api.JobTake), "/l/item-00000")...)
	q.hears(taken(marker(8, api.Part{Id: 1, Shot: shotOf(8, "/", api.WatchSubtree, nodes...)})), does(lists("/l")))
}

// TestRivalsAtRoot: the rivals of a base that is the root.
func TestRivalsAtRoot(t *testing.T) {
	b := born(t, api.Job{Kind: api.JobBarrier, Base: "/", Size: 2})
	begun(b)
	b.asked(refusal(0, api.ErrRoot), does(makes("/wait-", "", brief|counted)))
	b.asked(made(3, "/wait-00001"), watches("/", api.WatchKids))
	b.sees(4, bare("/", "/l", "/wait-00001", "/wait-0001"))
	b.shows(api.HeldWaiting, "/wait-00001", 0, api.OK)
	b.hears(taken(event(5, makesNode("/wait-00002", "", 1))))
	b.shows(api.HeldIn, "/wait-00001", 5, api.OK)
}
