package place_test

import (
	"path"
	"regexp"
	"slices"
	"strings"
	"testing"
	"unsafe"

	"herald/api"
	"herald/place"
)

var placeShape = regexp.MustCompile(`^(/|(/[A-Za-z0-9_.-]{1,16}){1,6})$`)

// textsOf is every text of at most that many of the pieces.
func textsOf(most int, pieces ...string) []string {
	all := []string{""}
	for begin, round := 0, 0; round < most; round++ {
		end := len(all)
		for _, text := range all[begin:end] {
			for _, piece := range pieces {
				all = append(all, text+piece)
			}
		}
		begin = end
	}
	return all
}

// looseTexts has places, texts that Clean takes, and texts that nothing takes, also deeper than MaxDepth.
func looseTexts() []string {
	texts := textsOf(7, "/", ".", "a", " ")
	texts = append(texts, textsOf(8, "/a", "/..", "/")...)
	return append(texts, textsOf(3, "/", "/abcdefghijklmnop", "/-_", "..", "q")...)
}

// somePlaces are the places among these texts.
func somePlaces() []string {
	var found []string
	for _, text := range looseTexts() {
		if shapedAsPlace(text) {
			found = append(found, text)
		}
	}
	return found
}

func shapedAsPlace(text string) bool {
	names := strings.Split(text, "/")
	return placeShape.MatchString(text) && !slices.Contains(names, ".") && !slices.Contains(names, "..")
}

// TestParseAgainstShape: P1.1, held against a pattern on every short text.
func TestParseAgainstShape(t *testing.T) {
	for _, text := range looseTexts() {
		names, code := place.Parse(text)
		if !shapedAsPlace(text) {
			if len(names) != 0 || code != api.ErrPlace {
				t.Fatalf("P1.1: Parse(%q) = %q, %d, but it is no place", text, names, code)
			}
			continue
		}
		if code != api.OK || text != "/" && "/"+strings.Join(names, "/") != text || text == "/" && len(names) != 0 {
			t.Fatalf("P1.1: Parse(%q) = %q, %d", text, names, code)
		}
	}
}

// cleanAgain is Clean by other means: path.Clean for the text, and a walk for the climbs above the root.
func cleanAgain(text string) (string, api.Errno) {
	if !strings.HasPrefix(text, "/") {
		return "", api.ErrPlace
	}
	depth := 0
	for _, piece := range strings.Split(text, "/") {
		switch {
		case piece == "" || piece == ".":
		case piece == "..":
			depth--
		case shapedAsPlace("/" + piece):
			depth++
		default:
			return "", api.ErrPlace
		}
		if depth < 0 {
			return "", api.ErrPlace
		}
	}
	if depth > api.MaxDepth {
		return "", api.ErrPlace
	}
	return path.Clean(text), api.OK
}

// TestCleanAgainstLibrary: P1.2, held against path.Clean on every short text.
func TestCleanAgainstLibrary(t *testing.T) {
	for _, text := range looseTexts() {
		want, wantCode := cleanAgain(text)
		if got, code := place.Clean(text); got != want || code != wantCode {
			t.Fatalf("P1.2: Clean(%q) = %q, %d, want %q, %d", text, got, code, want, wantCode)
		}
	}
}

// orderKey turns a text so that plain comparison of bytes orders it as P1.6 says.
func orderKey(text string) string {
	var key []byte
	for i := range len(text) {
		if text[i] == '/' {
			key = append(key, 0, 0)
		} else {
			key = append(key, 1, text[i])
		}
	}
	return string(key)
}

// TestOrderAgainstKeys: P1.6, any two short texts.
func TestOrderAgainstKeys(t *testing.T) {
	texts := textsOf(3, "/", "\x00", "-", ".", "0", "a", "\xff")
	for _, a := range texts {
		for _, b := range texts {
			if got, want := place.Order(a, b), strings.Compare(orderKey(a), orderKey(b)); got != want {
				t.Fatalf("P1.6: Order(%q, %q) = %d, want %d", a, b, got, want)
			}
		}
	}
}

// TestOrderOfPlaces: P1.6, all that is below a place follows it, and nothing stands between.
func TestOrderOfPlaces(t *testing.T) {
	places := textsOf(3, "/a", "/-", "/b-", "/b", "/A.")
	places[0] = "/"
	slices.SortFunc(places, place.Order)
	for i, upper := range places {
		inside := true
		for k, lower := range places {
			below := upper == "/" && lower != "/" || strings.HasPrefix(lower, upper+"/")
			if below && k < i {
				t.Fatalf("P1.6: %q stands ahead of %q", lower, upper)
			}
			if below && !inside {
				t.Fatalf("P1.6: something stands between %q and %q", upper, lower)
			}
			inside = inside && (k <= i || below)
		}
	}
}

// ancestors are the places above one, by cutting names off its text.
func ancestors(text string) []string {
	var above []string
	for text != "/" {
		text = path.Dir(text)
		above = append(above, text)
	}
	return above
}

// coversAgain is the table of P1.7 by other means, for two places.
func coversAgain(kind int, watched string, change int, changed string) bool {
	above := ancestors(changed)
	switch {
	case change < api.ChangeMade || change > api.ChangeGone:
		return false
	case kind == api.WatchNode:
		return watched == changed
	case kind == api.WatchKids && change != api.ChangeSet:
		return watched == changed || len(above) > 0 && above[0] == watched
	case kind == api.WatchSubtree:
		return watched == changed || slices.Contains(above, watched)
	}
	return false
}

// TestCoversAgainstTable: P1.7, every kind of watch and change at pairs of places, and at texts that are none.
func TestCoversAgainstTable(t *testing.T) {
	places := textsOf(3, "/a", "/ab", "/a.", "/b")
	places[0] = "/"
	wrong := []string{"", "a", "//", "/a/", "/.", "/a/..", "/a b"}
	for kind := -1; kind <= 5; kind++ {
		for change := -1; change <= 5; change++ {
			for _, watched := range places {
				for _, changed := range places {
					if got := place.Covers(kind, watched, change, changed); got != coversAgain(kind, watched, change, changed) {
						t.Fatalf("P1.7: Covers(%d, %q, %d, %q) = %v", kind, watched, change, changed, got)
					}
				}
				for _, text := range wrong {
					if place.Covers(kind, watched, change, text) || place.Covers(kind, text, change, watched) || place.Covers(kind, text, change, text) {
						t.Fatalf("P1.7: a watch (%d) or change (%d) of %q, which is no place, is covered", kind, change, text)
					}
				}
			}
		}
	}
}

// TestThereAndBack: P1.8, of Parse and Join.
func TestThereAndBack(t *testing.T) {
	extra := [][]string{nil, {"x"}, {"x", "..y"}, {"x", "y", "z", "x", "y", "z"}}
	for _, text := range append(somePlaces(), longestPlace()) {
		names, code := place.Parse(text)
		if code != api.OK {
			t.Fatalf("P1.8: Parse(%q): %d", text, code)
		}
		if back, code := place.Join("/", names...); back != text || code != api.OK {
			t.Fatalf("P1.8: Join of Parse(%q) = %q, %d", text, back, code)
		}
		for _, more := range extra {
			joined, code := place.Join(text, more...)
			if len(names)+len(more) > api.MaxDepth {
				if joined != "" || code != api.ErrPlace {
					t.Fatalf("P1.3: Join(%q, %q) = %q, %d", text, more, joined, code)
				}
				continue
			}
			all, back := place.Parse(joined)
			if code != api.OK || back != api.OK || !slices.Equal(all, slices.Concat(names, more)) {
				t.Fatalf("P1.8: Parse of Join(%q, %q) = %q, %d, %d", text, more, all, code, back)
			}
		}
	}
}

// TestCleanTwice: P1.8, of Clean.
func TestCleanTwice(t *testing.T) {
	for _, text := range append(somePlaces(), longestPlace()) {
		if clean, code := place.Clean(text); clean != text || code != api.OK {
			t.Fatalf("P1.8: Clean of the place %q = %q, %d", text, clean, code)
		}
	}
	for _, text := range looseTexts() {
		once, code := place.Clean(text)
		if code != api.OK {
			continue
		}
		if twice, code := place.Clean(once); twice != once || code != api.OK {
			t.Fatalf("P1.8: Clean(%q) = %q, but Clean of that = %q, %d", text, once, twice, code)
		}
	}
}

// TestUpAndDown: P1.4 and P1.3, Join of a place's parent and name is the place.
func TestUpAndDown(t *testing.T) {
	for _, text := range somePlaces() {
		name, nameCode := place.Name(text)
		parent, parentCode := place.Parent(text)
		if text == "/" {
			continue
		}
		if back, code := place.Join(parent, name); nameCode != api.OK || parentCode != api.OK || code != api.OK || back != text {
			t.Fatalf("P1.4: %q: parent %q, %d, name %q, %d, joined %q, %d", text, parent, parentCode, name, nameCode, back, code)
		}
	}
}

// TestHandedInStays: P1.9, neither the names nor the room behind them is written into.
func TestHandedInStays(t *testing.T) {
	for _, base := range []string{"/", "/p", "/p/q/r/s", "/p/q/r/s/t/u", "no place"} {
		room := []string{"a", "b", "behind", "behind", "behind", "behind", "behind", "behind"}
		before := slices.Clone(room)
		for range 2 {
			place.Join(base, room[:2]...)
			place.Join(base, room[:0]...)
		}
		if !slices.Equal(room, before) {
			t.Errorf("P1.9: Join(%q) left %q", base, room)
		}
	}
}

// TestAnswersAreNew: P1.9, whoever writes into an answered list, and into its spare room, changes no other answer.
func TestAnswersAreNew(t *testing.T) {
	for _, text := range []string{"/", "/a", "/a/b/c", "/a/b/c/d/e/f"} {
		first, _ := place.Parse(text)
		other, _ := place.Parse(text)
		want := slices.Clone(other)
		whole := first[:cap(first)]
		for i := range whole {
			whole[i] = "written"
		}
		spare := other[:cap(other)]
		if !slices.Equal(other, want) || slices.Contains(spare, "written") {
			t.Errorf("P1.9: an answer of Parse(%q) was changed by another one: %q", text, spare)
		}
		again, code := place.Parse(text)
		if !slices.Equal(again, want) || slices.Contains(again[:cap(again)], "written") || code != api.OK {
			t.Errorf("P1.9: Parse(%q) behind that = %q, %d", text, again, code)
		}
	}
}

// sharesBytes tells whether one text lies within the memory of the other.
func sharesBytes(whole, piece string) bool {
	begin := uintptr(unsafe.Pointer(unsafe.StringData(whole)))
	at := uintptr(unsafe.Pointer(unsafe.StringData(piece)))
	return piece != "" && at >= begin && at < begin+uintptr(len(whole))
}

// TestTextsAreNew: W6, no answer holds on to the memory of the text that was handed in.
func TestTextsAreNew(t *testing.T) {
	text := strings.Clone("/one/two/three")
	answers, _ := place.Parse(text)
	for _, call := range []func(string) (string, api.Errno){place.Clean, place.Parent, place.Name,
		func(s string) (string, api.Errno) { return place.Join(s) },
		func(s string) (string, api.Errno) { return place.Counted(s, 1) }} {
		answer, _ := call(text)
		answers = append(answers, answer)
	}
	name := strings.Clone("four")
	joined, _ := place.Join("/", name)
	for _, answer := range append(answers, joined) {
		if answer == "" || sharesBytes(text, answer) || sharesBytes(name, answer) {
			t.Errorf("W6: the answer %q is no new memory", answer)
		}
	}
}
