package place_test

import (
	"math"
	"slices"
	"strings"
	"testing"

	"herald/api"
	"herald/place"
)

const nameLetters = "ABCDEFGHIJKLMNOPQRSTUVWXYZabcdefghijklmnopqrstuvwxyz0123456789_-."

// longestPlace has MaxDepth names of MaxName bytes: just MaxPlace bytes.
func longestPlace() string {
	return strings.Repeat("/"+strings.Repeat("n", api.MaxName), api.MaxDepth)
}

// TestParse: P1.1, the examples and the edges.
func TestParse(t *testing.T) {
	longName := strings.Repeat("n", api.MaxName)
	for _, c := range []struct {
		text string
		want []string
		code api.Errno
	}{
		{"/", nil, api.OK},
		{"/a", []string{"a"}, api.OK},
		{"/a/b-1", []string{"a", "b-1"}, api.OK},
		{"/..a", []string{"..a"}, api.OK},
		{"/...", []string{"..."}, api.OK},
		{"/.a/a./_/-", []string{".a", "a.", "_", "-"}, api.OK},
		{"/b/a/b", []string{"b", "a", "b"}, api.OK},
		{"/a/b/c/d/e/f", []string{"a", "b", "c", "d", "e", "f"}, api.OK},
		{"/" + longName, []string{longName}, api.OK},
		{longestPlace(), slices.Repeat([]string{longName}, api.MaxDepth), api.OK},
		{"", nil, api.ErrPlace},
		{"a", nil, api.ErrPlace},
		{"a/b", nil, api.ErrPlace},
		{"./a", nil, api.ErrPlace},
		{"//", nil, api.ErrPlace},
		{"//a", nil, api.ErrPlace},
		{"/a/", nil, api.ErrPlace},
		{"/a//b", nil, api.ErrPlace},
		{"/.", nil, api.ErrPlace},
		{"/..", nil, api.ErrPlace},
		{"/a/.", nil, api.ErrPlace},
		{"/../a", nil, api.ErrPlace},
		{"/a b", nil, api.ErrPlace},
		{" /a", nil, api.ErrPlace},
		{"/a\x00", nil, api.ErrPlace},
		{"/\xff", nil, api.ErrPlace},
		{"/\u00e9", nil, api.ErrPlace},
		{"/a/b/c/d/e/f/g", nil, api.ErrPlace},
		{"/a/b/c/d/e/f/", nil, api.ErrPlace},
		{"/" + longName + "n", nil, api.ErrPlace},
		{"/a/" + longName + "n/b", nil, api.ErrPlace},
		{strings.Repeat("/", api.MaxPlace), nil, api.ErrPlace},
		{strings.Repeat("/", api.MaxPlace+1), nil, api.ErrLong},
		{strings.Repeat("x", api.MaxPlace+1), nil, api.ErrLong},
		{longestPlace() + "n", nil, api.ErrLong},
		{strings.Repeat("/a", 1<<20), nil, api.ErrLong},
	} {
		names, code := place.Parse(c.text)
		if !slices.Equal(names, c.want) || code != c.code {
			t.Errorf("P1.1: Parse(%.120q) = %q, %d, want %q, %d", c.text, names, code, c.want, c.code)
		}
	}
}

// TestParseBytes: P1.1, every byte in a name, at its beginning, inside and at its end.
func TestParseBytes(t *testing.T) {
	for b := range 256 {
		letter := string([]byte{byte(b)})
		want := api.ErrPlace
		if strings.Contains(nameLetters, letter) {
			want = api.OK
		}
		for _, name := range []string{letter + "xx", "x" + letter + "xx", "xx" + letter} {
			if b == '/' {
				continue // it ends a name
			}
			names, code := place.Parse("/" + name)
			if code != want || want == api.OK && !slices.Equal(names, []string{name}) {
				t.Errorf("P1.1: Parse(%q) = %q, %d, want %d", "/"+name, names, code, want)
			}
		}
	}
}

// TestClean: P1.2, the examples and the edges.
func TestClean(t *testing.T) {
	longName := strings.Repeat("n", api.MaxName)
	upAndDown := strings.Repeat("/a", 10000) + strings.Repeat("/..", 10000)
	for _, c := range []struct {
		text, want string
		code       api.Errno
	}{
		{"//a/./b/../c/", "/a/c", api.OK},
		{"/", "/", api.OK},
		{"///", "/", api.OK},
		{"/.", "/", api.OK},
		{"/./.", "/", api.OK},
		{"/a", "/a", api.OK},
		{"/a/", "/a", api.OK},
		{"/a/..", "/", api.OK},
		{"/a/../", "/", api.OK},
		{"/a/../b", "/b", api.OK},
		{"/a/b/../../c", "/c", api.OK},
		{"/..a/...", "/..a/...", api.OK},
		{"/a/b/c/d/e/f/g/..", "/a/b/c/d/e/f", api.OK},
		{"/a/b/c/d/e/f/../g", "/a/b/c/d/e/g", api.OK},
		{upAndDown + "/z", "/z", api.OK},
		{longestPlace(), longestPlace(), api.OK},
		{strings.Repeat("/", api.MaxText-1) + "a", "/a", api.OK},
		{strings.Repeat("/", api.MaxText), "/", api.OK},
		{"/.." + strings.Repeat("/", api.MaxText-3), "", api.ErrPlace},
		{"", "", api.ErrPlace},
		{"a", "", api.ErrPlace},
		{"./a", "", api.ErrPlace},
		{"../a", "", api.ErrPlace},
		{" /a", "", api.ErrPlace},
		{"/..", "", api.ErrPlace},
		{"/./..", "", api.ErrPlace},
		{"/a/../..", "", api.ErrPlace},
		{"/../a", "", api.ErrPlace},
		{"/a b", "", api.ErrPlace},
		{"/a b/..", "", api.ErrPlace},
		{"/a/\xc3\xa9/..", "", api.ErrPlace},
		{"/a\x00", "", api.ErrPlace},
		{"/a/b/c/d/e/f/g", "", api.ErrPlace},
		{"/a/../a/b/c/d/e/f/g", "", api.ErrPlace},
		{"/" + longName + "n", "", api.ErrPlace},
		{"/" + longName + "n/..", "", api.ErrPlace},
		{strings.Repeat("/", api.MaxText+1), "", api.ErrLong},
		{strings.Repeat("x", api.MaxText+1), "", api.ErrLong},
		{"/.." + strings.Repeat("/", api.MaxText), "", api.ErrLong},
	} {
		text, code := place.Clean(c.text)
		if text != c.want || code != c.code {
			t.Errorf("P1.2: Clean(%.60q) = %q, %d, want %q, %d", c.text, text, code, c.want, c.code)
		}
	}
}

// TestJoin: P1.3.
func TestJoin(t *testing.T) {
	longName := strings.Repeat("n", api.MaxName)
	for _, c := range []struct {
		base  string
		names []string
		want  string
		code  api.Errno
	}{
		{"/", []string{"a", "b"}, "/a/b", api.OK},
		{"/a", nil, "/a", api.OK},
		{"/a", []string{}, "/a", api.OK},
		{"/", nil, "/", api.OK},
		{"/", []string{"a"}, "/a", api.OK},
		{"/a/b", []string{"c", "b"}, "/a/b/c/b", api.OK},
		{"/a/b/c/d/e", []string{"f"}, "/a/b/c/d/e/f", api.OK},
		{"/", []string{"a", "b", "c", "d", "e", "f"}, "/a/b/c/d/e/f", api.OK},
		{"/a/b/c/d/e/f", nil, "/a/b/c/d/e/f", api.OK},
		{"/", slices.Repeat([]string{longName}, api.MaxDepth), longestPlace(), api.OK},
		{longestPlace(), nil, longestPlace(), api.OK},
		{"/a", []string{"b/c"}, "", api.ErrPlace},
		{"/a", []string{"/b"}, "", api.ErrPlace},
		{"/a", []string{""}, "", api.ErrPlace},
		{"/a", []string{"."}, "", api.ErrPlace},
		{"/a", []string{".."}, "", api.ErrPlace},
		{"/a", []string{"b", ".."}, "", api.ErrPlace},
		{"/a", []string{"b c", "d"}, "", api.ErrPlace},
		{"/a", []string{"\xff"}, "", api.ErrPlace},
		{"/a", []string{longName + "n"}, "", api.ErrPlace},
		{"/a", []string{strings.Repeat("n", 1<<20)}, "", api.ErrPlace},
		{"", nil, "", api.ErrPlace},
		{"a", nil, "", api.ErrPlace},
		{"/a/", []string{"b"}, "", api.ErrPlace},
		{"//", nil, "", api.ErrPlace},
		{"/a/b/c/d/e", []string{"f", "g"}, "", api.ErrPlace},
		{"/a/b/c/d/e/f", []string{"g"}, "", api.ErrPlace},
		{"/", []string{"a", "b", "c", "d", "e", "f", "g"}, "", api.ErrPlace},
		{"/", slices.Repeat([]string{"a"}, 1<<16), "", api.ErrPlace},
		{strings.Repeat("x", api.MaxPlace), nil, "", api.ErrPlace},
		{strings.Repeat("x", api.MaxPlace+1), nil, "", api.ErrLong},
		{strings.Repeat("x", api.MaxPlace+1), []string{""}, "", api.ErrLong},
	} {
		text, code := place.Join(c.base, c.names...)
		if text != c.want || code != c.code {
			t.Errorf("P1.3: Join(%.120q, %d names) = %q, %d, want %q, %d", c.base, len(c.names), text, code, c.want, c.code)
		}
	}
}

// TestParentAndName: P1.4.
func TestParentAndName(t *testing.T) {
	longest := longestPlace()
	for _, c := range []struct {
		text, parent, name   string
		parentCode, nameCode api.Errno
	}{
		{"/a/b", "/a", "b", api.OK, api.OK},
		{"/a", "/", "a", api.OK, api.OK},
		{"/a/b/c/d/e/f", "/a/b/c/d/e", "f", api.OK, api.OK},
		{"/a/a", "/a", "a", api.OK, api.OK},
		{longest, longest[:api.MaxPlace-api.MaxName-1], strings.Repeat("n", api.MaxName), api.OK, api.OK},
		{"/", "", "", api.ErrRoot, api.OK},
		{"", "", "", api.ErrPlace, api.ErrPlace},
		{"a", "", "", api.ErrPlace, api.ErrPlace},
		{"/a/", "", "", api.ErrPlace, api.ErrPlace},
		{"/ /b", "", "", api.ErrPlace, api.ErrPlace},
		{"/a/b/c/d/e/f/g", "", "", api.ErrPlace, api.ErrPlace},
		{strings.Repeat("/", api.MaxPlace), "", "", api.ErrPlace, api.ErrPlace},
		{strings.Repeat("/", api.MaxPlace+1), "", "", api.ErrLong, api.ErrLong},
	} {
		if parent, code := place.Parent(c.text); parent != c.parent || code != c.parentCode {
			t.Errorf("P1.4: Parent(%q) = %q, %d, want %q, %d", c.text, parent, code, c.parent, c.parentCode)
		}
		if name, code := place.Name(c.text); name != c.name || code != c.nameCode {
			t.Errorf("P1.4: Name(%q) = %q, %d, want %q, %d", c.text, name, code, c.name, c.nameCode)
		}
	}
}

// TestCounted: P1.5, with the order of its errors.
func TestCounted(t *testing.T) {
	deep := strings.Repeat("/"+strings.Repeat("n", api.MaxName), api.MaxDepth-1)
	fits := "/" + strings.Repeat("n", api.MaxName-5)
	for _, c := range []struct {
		text    string
		counter int
		want    string
		code    api.Errno
	}{
		{"/a/job-", 7, "/a/job-00007", api.OK},
		{"/a", 0, "/a00000", api.OK},
		{"/a", 42, "/a00042", api.OK},
		{"/a", 12345, "/a12345", api.OK},
		{"/a", api.MaxCounter, "/a99999", api.OK},
		{"/a1", 10, "/a100010", api.OK},
		{fits, 0, fits + "00000", api.OK},
		{deep + fits, api.MaxCounter, deep + fits + "99999", api.OK},
		{"/" + strings.Repeat("n", api.MaxName) + "/a", 1, "/" + strings.Repeat("n", api.MaxName) + "/a00001", api.OK},
		{"", 7, "", api.ErrPlace},
		{"a", 7, "", api.ErrPlace},
		{"/a/", 7, "", api.ErrPlace},
		{"/.", 7, "", api.ErrPlace},
		{"/a/b/c/d/e/f/g", 7, "", api.ErrPlace},
		{"/a b", -1, "", api.ErrPlace},
		{strings.Repeat("/", api.MaxPlace+1), -1, "", api.ErrLong},
		{"/", 7, "", api.ErrRoot},
		{"/", -7, "", api.ErrRoot},
		{fits + "n", 7, "", api.ErrPlace},
		{fits + "n", -7, "", api.ErrPlace},
		{deep + fits + "n", api.MaxCounter + 1, "", api.ErrPlace},
		{"/a", -1, "", api.ErrArg},
		{"/a", api.MaxCounter + 1, "", api.ErrArg},
		{fits, api.MaxCounter + 1, "", api.ErrArg},
		{"/a", math.MinInt, "", api.ErrArg},
		{"/a", math.MaxInt, "", api.ErrArg},
	} {
		text, code := place.Counted(c.text, c.counter)
		if text != c.want || code != c.code {
			t.Errorf("P1.5: Counted(%.120q, %d) = %q, %d, want %q, %d", c.text, c.counter, text, code, c.want, c.code)
		}
	}
}

// TestOrder: P1.6, a list that stands in its order.
func TestOrder(t *testing.T) {
	inOrder := []string{
		"", "/", "//", "/\x00", "/-", "/A", "/a", "/a/", "/a//", "/a/b", "/a/b/c", "/a/b-c", "/a/c",
		"/a\x00", "/a-b", "/a.b", "/a0", "/aa", "/b", "/\x80", "/\xff", "\x00", "a", "a/", "a\x00", "\xff",
	}
	for i, a := range inOrder {
		for k, b := range inOrder {
			want := 0
			switch {
			case i < k:
				want = -1
			case i > k:
				want = 1
			}
			if got := place.Order(a, b); got != want {
				t.Errorf("P1.6: Order(%q, %q) = %d, want %d", a, b, got, want)
			}
		}
	}
	long := strings.Repeat("a", 1<<20)
	for _, c := range []struct {
		a, b string
		want int
	}{{long, long, 0}, {long, long + "\x00", -1}, {long + "/", long + "\x00", -1}, {long + "b", long + "a", 1}} {
		if got := place.Order(c.a, c.b); got != c.want {
			t.Errorf("P1.6: Order of long texts = %d, want %d", got, c.want)
		}
	}
}

// TestCovers: P1.7, the examples and the edges.
func TestCovers(t *testing.T) {
	const made, set, gone = api.ChangeMade, api.ChangeSet, api.ChangeGone
	const node, kids, subtree = api.WatchNode, api.WatchKids, api.WatchSubtree
	longest := longestPlace()
	for _, c := range []struct {
		kind    int
		watched string
		change  int
		changed string
		want    bool
	}{
		{node, "/a", set, "/a", true},
		{node, "/a", made, "/a", true},
		{node, "/a", gone, "/a", true},
		{node, "/", set, "/", true},
		{node, "/a", gone, "/a/b", false},
		{node, "/a/b", gone, "/a", false},
		{node, "/", made, "/a", false},
		{kids, "/a", made, "/a", true},
		{kids, "/a", gone, "/a", true},
		{kids, "/a", set, "/a", false},
		{kids, "/a", made, "/a/b", true},
		{kids, "/a", gone, "/a/b", true},
		{kids, "/a", set, "/a/b", false},
		{kids, "/a", made, "/a/b/c", false},
		{kids, "/a", made, "/ab", false},
		{kids, "/a/b", made, "/a", false},
		{kids, "/", made, "/x", true},
		{kids, "/", gone, "/x/y", false},
		{kids, "/", made, "/", true},
		{kids, "/", set, "/", false},
		{subtree, "/a", set, "/a", true},
		{subtree, "/a", set, "/a/b/c", true},
		{subtree, "/a", made, "/a/b", true},
		{subtree, "/a", set, "/ab", false},
		{subtree, "/a", set, "/a-b", false},
		{subtree, "/a/b", gone, "/a", false},
		{subtree, "/a/b", set, "/b/a/b", false},
		{subtree, "/", made, "/x", true},
		{subtree, "/", set, "/x/y/z", true},
		{subtree, "/", set, "/", true},
		{subtree, "/a", set, "/", false},
		{subtree, "/" + strings.Repeat("n", api.MaxName), gone, longest, true},
		{subtree, longest, gone, longest, true},

		{0, "/a", made, "/a", false},
		{4, "/a", made, "/a", false},
		{-1, "/a", made, "/a", false},
		{math.MaxInt, "/a", made, "/a", false},
		{math.MinInt, "/a", made, "/a", false},
		{node, "/a", 0, "/a", false},
		{kids, "/a", 0, "/a", false},
		{kids, "/a", 4, "/a/b", false},
		{subtree, "/a", 4, "/a", false},
		{subtree, "/a", math.MinInt, "/a", false},
		{node, "a", set, "a", false},
		{node, "", set, "", false},
		{kids, "", made, "/a", false},
		{kids, "", made, "/", false},
		{subtree, "", made, "/a", false},
		{subtree, "/", made, "", false},
		{subtree, "/", made, "/a/", false},
		{subtree, "/a/", made, "/a/b", false},
		{subtree, "/", made, "/a/b/c/d/e/f/g", false},
		{subtree, "/a", made, "/a/../b", false},
		{node, longest + "n", set, longest + "n", false},
		{subtree, "/", made, strings.Repeat("/a", 1<<20), false},
	} {
		if got := place.Covers(c.kind, c.watched, c.change, c.changed); got != c.want {
			t.Errorf("P1.7: Covers(%d, %.120q, %d, %.120q) = %v", c.kind, c.watched, c.change, c.changed, got)
		}
	}
}
