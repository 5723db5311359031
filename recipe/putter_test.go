package recipe_test

import (
	"fmt"
	"strings"
	"testing"

	"herald/api"
)

func putterOf(t *testing.T, data string, size int) *life {
	t.Helper()
	l := born(t, api.Job{Kind: api.JobPut, Base: "/l", Data: data, Size: size})
	begun(l)
	l.asked(refusal(2, api.ErrExists), does(makes("/l/item-", data, counted)))
	return l
}

// TestPutter: P20.10, each time an item, its place and its stamp; done at the time that Size says.
func TestPutter(t *testing.T) {
	for size := 1; size <= 8; size++ {
		for _, data := range []string{"", "x", strings.Repeat("d", 64)} {
			l := putterOf(t, data, size)
			var values []string
			for i := 1; i <= size; i++ {
				at := fmt.Sprintf("/l/item-%05d", 3*i)
				values = append(values, data)
				if i == size {
					l.asked(made(10*i, at))
					l.shows(api.HeldDone, at, 10*i, api.OK, values...)
					l.begins()
				} else {
					l.asked(made(10*i, at), does(makes("/l/item-", data, counted)))
					l.shows(api.HeldAsking, at, 10*i, api.OK, values...)
				}
			}
		}
	}
}

// TestPutterStamp: P20.10, Stamp is the reply's, not that of the node.
func TestPutterStamp(t *testing.T) {
	l := putterOf(t, "x", 1)
	l.asked(results(9, api.Result{Place: "/l/item-00004", Made: 5, Changed: 6}))
	l.shows(api.HeldDone, "/l/item-00004", 9, api.OK, "x")
}

// TestPutterAnswers: P20.10, the answer with each code, at first and behind an item.
func TestPutterAnswers(t *testing.T) {
	for _, code := range allCodes() {
		if code == api.OK {
			continue
		}
		l := putterOf(t, "x", 3)
		l.asked(refusal(3, code))
		l.shows(api.HeldOut, "", 0, code)
		l = putterOf(t, "x", 3)
		l.asked(made(3, "/l/item-00004"), does(makes("/l/item-", "x", counted)))
		l.asked(refusal(5, code))
		l.shows(api.HeldOut, "", 3, code, "x")
	}
}

// TestPutterLeft: P20.4, what was put when it is left counts.
func TestPutterLeft(t *testing.T) {
	l := putterOf(t, "x", 3)
	l.calls()
	l.leaves()
	l.answers(made(3, "/l/item-00004"))
	l.shows(api.HeldDone, "/l/item-00004", 3, api.OK, "x")
}
