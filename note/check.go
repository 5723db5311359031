package note

import (
	"herald/api"
	"herald/place"
)

func checkNote(n *api.Note, fields []field) {
	rest := *n
	for _, f := range fields {
		f.check(n)
		f.empty(&rest)
	}
	must(isBare(&rest))
}

// isBare tells whether a note has nothing but its kind.
func isBare(n *api.Note) bool {
	return n.View == (api.View{}) && n.Session == 0 && n.Conn == 0 && n.Request == 0 &&
		n.Stamp == 0 && n.Of == 0 && n.Commit == 0 && n.Code == api.OK &&
		len(n.Ops) == 0 && len(n.Entries) == 0 && isNoReply(n.Reply) &&
		len(n.Watches) == 0 && len(n.Parts) == 0 && len(n.Items) == 0 && n.State == ""
}

func isNoReply(r api.Reply) bool {
	return r.Stamp == 0 && r.Code == api.OK && r.At == 0 && len(r.Results) == 0
}

func isNoShot(s api.Shot) bool {
	return s.Stamp == 0 && s.Place == "" && s.Kind == 0 && len(s.Nodes) == 0
}

func checkView(n *api.Note) {
	mustNumbers(n.View.Num, n.View.Primary, n.View.Backup)
}

func checkState(n *api.Note) {
	mustText(n.State, api.MaxState)
}

func checkOps(n *api.Note) {
	mustList(n.Ops, 0, api.MaxOps, checkOp)
}

func checkOp(o api.Op) {
	mustNumbers(o.Kind, o.Flags)
	mustNumber(o.Version, anyVersion)
	mustText(o.Place, api.MaxRaw)
	mustText(o.Data, api.MaxRaw)
}

func checkEntries(n *api.Note) {
	mustList(n.Entries, 0, api.MaxBatch, checkEntry)
}

func checkEntry(e api.Entry) {
	mustNumber(e.Stamp, 1)
	mustNumber(e.View, 0)
	mustNumber(e.Session, 1)
	if e.Kind == api.EntryRequest {
		mustNumber(e.Request, 1)
		mustList(e.Ops, 0, api.MaxOps, checkOp)
		return
	}
	must(e.Kind == api.EntryOpen || e.Kind == api.EntryClose || e.Kind == api.EntryExpire)
	must(e.Request == 0 && len(e.Ops) == 0)
}

func checkReply(n *api.Note) {
	r := n.Reply
	mustNumbers(r.Stamp, int(r.Code), r.At)
	mustList(r.Results, 0, api.MaxOps, checkResult)
}

func checkResult(r api.Result) {
	if r.Place != "" {
		mustPlace(r.Place)
	}
	mustText(r.Data, api.MaxData)
	mustNumbers(r.Version, r.Made, r.Changed, r.Owner)
	mustList(r.Kids, 0, api.MaxNodes, mustName)
}

// checkWatches knows whose watches are asked for in full, and whose are only named.
func checkWatches(n *api.Note) {
	switch n.Kind {
	case api.NoteResume:
		mustList(n.Watches, 0, api.MaxWatches, checkWatch)
	case api.NoteWatch:
		mustList(n.Watches, 1, 1, checkWatch)
	case api.NoteDeliver:
		mustList(n.Watches, 0, api.MaxWatches, checkNamedWatch)
		mustRise(n.Watches, func(w api.Watch) int { return w.Id })
	default:
		mustList(n.Watches, 1, 1, checkNamedWatch)
	}
}

func checkWatch(w api.Watch) {
	mustNumber(w.Id, 1)
	mustPlace(w.Place)
	mustWatchKind(w.Kind)
	mustNumber(w.From, 0)
}

func checkNamedWatch(w api.Watch) {
	mustNumber(w.Id, 1)
	must(w == api.Watch{Id: w.Id})
}

// checkParts is of NoteWatched alone: a watch that was refused has no shot.
func checkParts(n *api.Note) {
	if n.Code == api.OK {
		mustList(n.Parts, 1, 1, checkPart)
		return
	}
	mustList(n.Parts, 1, 1, checkNamedPart)
}

func checkPart(p api.Part) {
	mustNumber(p.Id, 1)
	checkShot(p.Shot)
}

func checkNamedPart(p api.Part) {
	mustNumber(p.Id, 1)
	must(isNoShot(p.Shot))
}

func checkShot(s api.Shot) {
	mustNumber(s.Stamp, 0)
	mustPlace(s.Place)
	mustWatchKind(s.Kind)
	mustList(s.Nodes, 0, api.MaxNodes, checkSeen)
}

func checkSeen(s api.Seen) {
	mustPlace(s.Place)
	mustText(s.Data, api.MaxData)
	mustNumber(s.Version, 0)
}

func checkItems(n *api.Note) {
	mustList(n.Items, 1, api.MaxWindow, checkItem)
	mustRise(n.Items, func(i api.Item) int { return i.Stamp })
	for _, item := range n.Items[1:] {
		must(!item.Marker)
	}
}

func checkItem(i api.Item) {
	mustNumbers(i.Stamp, i.After)
	if i.Marker {
		must(len(i.Changes) == 0)
		mustList(i.Parts, 1, api.MaxWatches, checkPart)
		return
	}
	must(len(i.Parts) == 0)
	mustList(i.Changes, 1, api.MaxNodes, checkTagged)
}

func checkTagged(t api.Tagged) {
	c := t.Change
	must(c.Kind == api.ChangeMade || c.Kind == api.ChangeSet || c.Kind == api.ChangeGone)
	mustPlace(c.Place)
	mustText(c.Data, api.MaxData)
	mustNumber(c.Version, 0)
	mustList(t.Tags, 1, api.MaxWatches, func(tag int) { mustNumber(tag, 1) })
	mustRise(t.Tags, func(tag int) int { return tag })
}

func mustNumber(v, low int) {
	must(low <= v && v <= api.MaxNumber)
}

func mustNumbers(all ...int) {
	for _, v := range all {
		mustNumber(v, 0)
	}
}

func mustText(text string, limit int) {
	must(len(text) <= limit)
}

func mustPlace(text string) {
	_, code := place.Parse(text)
	must(code == api.OK)
}

// mustName looks at the length first, so that no text of any length is laid behind a slash.
func mustName(name string) {
	mustText(name, api.MaxName)
	names, code := place.Parse("/" + name)
	must(code == api.OK && len(names) == 1)
}

func mustWatchKind(kind int) {
	must(kind == api.WatchNode || kind == api.WatchKids || kind == api.WatchSubtree)
}

// mustList looks at the length ahead of the elements, so that a list of any length costs little.
func mustList[T any](list []T, low, high int, check func(T)) {
	must(low <= len(list) && len(list) <= high)
	for _, element := range list {
		check(element)
	}
}

func mustRise[T any](list []T, key func(T) int) {
	for i := 1; i < len(list); i++ {
		must(key(list[i-1]) < key(list[i]))
	}
}
