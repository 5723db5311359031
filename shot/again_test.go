package shot_test

import (
	"bytes"
	"encoding/binary"
	"maps"
	"path"
	"regexp"
	"slices"
	"strings"

	"herald/api"
)

// What stands here reckons the chapter a second time, clause by clause and by other means than the program: a map of nodes, places cut into names.

const most = 2147483647

var shape = regexp.MustCompile(`^(/|(/[A-Za-z0-9_.-]{1,16}){1,6})$`)

func isPlace(text string) bool {
	names := strings.Split(text, "/")
	return shape.MatchString(text) && !slices.Contains(names, ".") && !slices.Contains(names, "..")
}

func namesOf(at string) []string {
	if at == "/" {
		return nil
	}
	return strings.Split(at, "/")[1:]
}

// byPlace orders places name by name.
func byPlace(a, b string) int {
	return slices.Compare(namesOf(a), namesOf(b))
}

func isBelow(upper, lower string) bool {
	above, own := namesOf(upper), namesOf(lower)
	return len(own) > len(above) && slices.Equal(own[:len(above)], above)
}

func isChild(upper, lower string) bool {
	return isBelow(upper, lower) && len(namesOf(lower)) == len(namesOf(upper))+1
}

func isOneOf(v int, all ...int) bool { return slices.Contains(all, v) }

func inRange(v int) bool { return v >= 0 && v <= most }

// inPart tells whether a place is one of the part of a watch, both of them places.
func inPart(kind int, watched, at string) bool {
	switch {
	case at == watched:
		return true
	case kind == api.WatchKids:
		return isChild(watched, at)
	}
	return kind == api.WatchSubtree && isBelow(watched, at)
}

func placesOf(s api.Shot) []string {
	var all []string
	for _, n := range s.Nodes {
		all = append(all, n.Place)
	}
	return all
}

// mayBeAgain is P5.1.
func mayBeAgain(s api.Shot) bool {
	if !inRange(s.Stamp) || !isPlace(s.Place) || !isOneOf(s.Kind, 1, 2, 3) || len(s.Nodes) > 64 {
		return false
	}
	all := placesOf(s)
	for i, n := range s.Nodes {
		if !isPlace(n.Place) || !inPart(s.Kind, s.Place, n.Place) || len(n.Data) > 64 || !inRange(n.Version) {
			return false
		}
		if i > 0 && byPlace(all[i-1], all[i]) >= 0 {
			return false
		}
		if s.Kind == api.WatchSubtree && n.Place != s.Place && !slices.Contains(all, path.Dir(n.Place)) {
			return false
		}
		if s.Kind == api.WatchKids && (n.Data != "" || n.Version != 0) {
			return false
		}
	}
	own := slices.Contains(all, s.Place)
	return (len(all) == 0 || own) && (s.Place != "/" || own)
}

// nodesOf are nodes by their places, and in order again.
func nodesOf(list []api.Seen) map[string]api.Seen {
	all := map[string]api.Seen{}
	for _, n := range list {
		all[n.Place] = n
	}
	return all
}

func inOrder(all map[string]api.Seen) []api.Seen {
	return slices.SortedFunc(maps.Values(all), func(a, b api.Seen) int { return byPlace(a.Place, b.Place) })
}

// playAgain plays one change on a shot's nodes, and tells whether it can be.
func playAgain(s api.Shot, all map[string]api.Seen, c api.Change) bool {
	if !isOneOf(c.Kind, 1, 2, 3) || !isPlace(c.Place) {
		return false
	}
	if !inPart(s.Kind, s.Place, c.Place) || s.Kind == api.WatchKids && c.Kind == api.ChangeSet {
		return true
	}
	_, there := all[c.Place]
	_, above := all[path.Dir(c.Place)]
	odd := len(c.Data) > 64 || !inRange(c.Version)
	node := api.Seen{Place: c.Place, Data: c.Data, Version: c.Version}
	if s.Kind == api.WatchKids {
		node.Data, node.Version = "", 0
	}
	switch c.Kind {
	case api.ChangeMade:
		if there || odd || len(all)+1 > 64 || s.Kind != api.WatchNode && c.Place != s.Place && !above {
			return false
		}
		all[c.Place] = node
	case api.ChangeSet:
		if !there || odd {
			return false
		}
		all[c.Place] = node
	case api.ChangeGone:
		for at := range all {
			if isBelow(c.Place, at) {
				return false
			}
		}
		if !there || c.Place == "/" {
			return false
		}
		delete(all, c.Place)
	}
	return true
}

// foldAgain is P5.3.
func foldAgain(s api.Shot, stamp int, changes []api.Change) (api.Shot, api.Errno) {
	if !mayBeAgain(s) {
		return api.Shot{}, api.ErrShot
	}
	if stamp <= s.Stamp || stamp > most {
		return api.Shot{}, api.ErrArg
	}
	all := nodesOf(s.Nodes)
	for _, c := range changes {
		if !playAgain(s, all, c) {
			return api.Shot{}, api.ErrFold
		}
	}
	return api.Shot{Stamp: stamp, Place: s.Place, Kind: s.Kind, Nodes: inOrder(all)}, api.OK
}

// diffAgain is P5.4.
func diffAgain(a, b api.Shot) ([]api.Change, api.Errno) {
	if !mayBeAgain(a) || !mayBeAgain(b) {
		return nil, api.ErrShot
	}
	if a.Place != b.Place || a.Kind != b.Kind {
		return nil, api.ErrArg
	}
	var changes []api.Change
	for i := len(a.Nodes) - 1; i >= 0; i-- {
		if !slices.Contains(placesOf(b), a.Nodes[i].Place) {
			changes = append(changes, api.Change{Kind: 3, Place: a.Nodes[i].Place})
		}
	}
	for _, n := range b.Nodes {
		was, there := nodesOf(a.Nodes)[n.Place]
		kind := 1
		if there {
			kind = 2
		}
		if !there || was.Data != n.Data || was.Version != n.Version {
			changes = append(changes, api.Change{Kind: kind, Place: n.Place, Data: n.Data, Version: n.Version})
		}
	}
	return changes, api.OK
}

// bytesAgain is P5.6, of any shot.
func bytesAgain(s api.Shot) []byte {
	number := func(b []byte, v int) []byte { return binary.AppendUvarint(b, uint64(v)) }
	text := func(b []byte, s string) []byte { return append(number(b, len(s)), s...) }
	b := number(text(number(nil, s.Stamp), s.Place), s.Kind)
	b = number(b, len(s.Nodes))
	for _, n := range s.Nodes {
		b = number(text(text(b, n.Place), n.Data), n.Version)
	}
	return b
}

// decodeAgain is P5.7, of bytes that are not too long: it reads loosely, and asks whether just these bytes are written of what it read.
func decodeAgain(data []byte) (api.Shot, bool) {
	b := bytes.NewReader(data)
	whole := true
	number := func() int {
		v, err := binary.ReadUvarint(b)
		whole = whole && err == nil
		return int(v)
	}
	text := func() string {
		n := number()
		if n < 0 || n > b.Len() {
			whole = false
			return ""
		}
		room := make([]byte, n)
		b.Read(room)
		return string(room)
	}
	s := api.Shot{Stamp: number(), Place: text(), Kind: number()}
	for count := number(); count != 0 && whole; count-- {
		s.Nodes = append(s.Nodes, api.Seen{Place: text(), Data: text(), Version: number()})
	}
	if !whole || !mayBeAgain(s) || !bytes.Equal(bytesAgain(s), data) {
		return api.Shot{}, false
	}
	return s, true
}

// same tells whether two shots are the same, stamps too.
func same(a, b api.Shot) bool {
	return a.Stamp == b.Stamp && a.Place == b.Place && a.Kind == b.Kind && slices.Equal(a.Nodes, b.Nodes)
}

// isZero tells whether a shot has nothing at all.
func isZero(s api.Shot) bool {
	return same(s, api.Shot{})
}
