// Package place: where a node is: see DOC.md, chapter 1.
package place

import (
	"cmp"
	"strconv"
	"strings"

	"herald/api"
)

const (
	root         = "/"
	counterWidth = 5
)

// Parse cuts a place into its names; the root has none.
func Parse(text string) ([]string, api.Errno) {
	if len(text) > api.MaxPlace {
		return nil, api.ErrLong
	}
	if text == root {
		return nil, api.OK
	}
	rest, ok := strings.CutPrefix(text, "/")
	if !ok {
		return nil, api.ErrPlace
	}
	// Names are pieces of a copy, so that none of them holds the caller's text in memory.
	names := strings.Split(strings.Clone(rest), "/")
	if len(names) > api.MaxDepth || !areNames(names) {
		return nil, api.ErrPlace
	}
	return names, api.OK
}

// Clean makes a place of a text with doubled slashes, a slash at the end, and names . and ..
func Clean(text string) (string, api.Errno) {
	if len(text) > api.MaxText {
		return "", api.ErrLong
	}
	rest, ok := strings.CutPrefix(text, "/")
	if !ok {
		return "", api.ErrPlace
	}
	var names []string
pieces:
	for _, piece := range strings.Split(rest, "/") {
		switch piece {
		case "", ".":
			continue pieces
		case "..":
			if len(names) == 0 {
				return "", api.ErrPlace
			}
			names = names[:len(names)-1]
			continue pieces
		}
		if !isName(piece) {
			return "", api.ErrPlace
		}
		names = append(names, piece)
	}
	// Only here: on the way there may be more names than a place has.
	if len(names) > api.MaxDepth {
		return "", api.ErrPlace
	}
	return placeOf(names), api.OK
}

// Join is the place of names below a place.
func Join(base string, names ...string) (string, api.Errno) {
	all, code := Parse(base)
	if code != api.OK {
		return "", code
	}
	if len(names) > api.MaxDepth-len(all) || !areNames(names) {
		return "", api.ErrPlace
	}
	return placeOf(append(all, names...)), api.OK
}

// Parent is the place above; the root has none.
func Parent(text string) (string, api.Errno) {
	names, code := belowRoot(text)
	if code != api.OK {
		return "", code
	}
	return placeOf(names[:len(names)-1]), api.OK
}

// Name is a place's last name.
func Name(text string) (string, api.Errno) {
	names, code := Parse(text)
	if code != api.OK || len(names) == 0 {
		return "", code
	}
	return names[len(names)-1], api.OK
}

// Counted is the place of a counted node: with five digits behind its name.
func Counted(text string, counter int) (string, api.Errno) {
	names, code := belowRoot(text)
	if code != api.OK {
		return "", code
	}
	if len(names[len(names)-1]) > api.MaxName-counterWidth {
		return "", api.ErrPlace
	}
	if counter < 0 || counter > api.MaxCounter {
		return "", api.ErrArg
	}
	digits := strconv.Itoa(counter)
	return text + strings.Repeat("0", counterWidth-len(digits)) + digits, api.OK
}

// Order tells which of two places comes first: -1, 0, 1.
func Order(a, b string) int {
	for i := range min(len(a), len(b)) {
		if a[i] != b[i] {
			return cmp.Compare(rank(a[i]), rank(b[i]))
		}
	}
	return cmp.Compare(len(a), len(b))
}

// Covers tells whether a change of that kind at a place is one for a watch.
func Covers(kind int, watched string, change int, changed string) bool {
	if !isPlace(watched) || !isChange(change) || !isPlace(changed) {
		return false
	}
	switch kind {
	case api.WatchNode:
		return changed == watched
	case api.WatchKids:
		return change != api.ChangeSet && (changed == watched || isChild(watched, changed))
	case api.WatchSubtree:
		return changed == watched || isBelow(watched, changed)
	}
	return false
}

// rank puts the slash ahead of every other byte, 0 too, so that what is below a place follows it at once.
func rank(b byte) int {
	if b == '/' {
		return -1
	}
	return int(b)
}

func placeOf(names []string) string {
	return root + strings.Join(names, "/")
}

func belowRoot(text string) ([]string, api.Errno) {
	names, code := Parse(text)
	if code != api.OK {
		return nil, code
	}
	if len(names) == 0 {
		return nil, api.ErrRoot
	}
	return names, api.OK
}

func isPlace(text string) bool {
	_, code := Parse(text)
	return code == api.OK
}

func isChange(kind int) bool {
	return kind == api.ChangeMade || kind == api.ChangeSet || kind == api.ChangeGone
}

func isChild(upper, lower string) bool {
	parent, code := Parent(lower)
	return code == api.OK && parent == upper
}

// isBelow asks for a slash behind the upper place, as /ab is not below /a; only the root ends with its own.
func isBelow(upper, lower string) bool {
	if upper == root {
		return lower != root
	}
	return strings.HasPrefix(lower, upper+"/")
}
