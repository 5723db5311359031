package recipe_test

import (
	"strconv"
	"testing"

	"herald/api"
)

func counterOf(t *testing.T, size int) *life {
	t.Helper()
	l := born(t, api.Job{Kind: api.JobCounter, Base: "/l", Size: size})
	begun(l)
	l.asked(refusal(2, api.ErrExists), does(gets("/l")))
	return l
}

func found(stamp int, data string, version int) api.Reply {
	return results(stamp, api.Result{Place: "/l", Data: data, Version: version})
}

// TestCounter: P20.9, a counter of three times, with others between.
func TestCounter(t *testing.T) {
	l := counterOf(t, 3)
	l.asked(found(3, "0", 0), does(sets("/l", "1", 0)))
	l.asked(found(4, "", 1), does(gets("/l")))
	l.shows(api.HeldAsking, "", 4, api.OK, "1")
	l.asked(found(5, "9", 12), does(sets("/l", "10", 12)))
	l.asked(refusal(6, api.ErrVersion), does(gets("/l")))
	l.shows(api.HeldAsking, "", 4, api.OK, "1")
	l.asked(found(7, "10", 13), does(sets("/l", "11", 13)))
	l.asked(found(8, "", 14), does(gets("/l")))
	l.asked(found(9, "11", 14), does(sets("/l", "12", 14)))
	l.asked(found(11, "", 15))
	l.shows(api.HeldDone, "", 11, api.OK, "1", "11", "12")
}

// TestCounterSizes: P20.9, done at the time that Size says, not ahead of it and not behind.
func TestCounterSizes(t *testing.T) {
	for size := 1; size <= 8; size++ {
		l := counterOf(t, size)
		var values []string
		for i := 1; i <= size; i++ {
			if i > 1 {
				l.shows(api.HeldAsking, "", 10*i-9, api.OK, values...)
			}
			l.asked(found(10*i, strconv.Itoa(i-1), i), does(sets("/l", strconv.Itoa(i), i)))
			values = append(values, strconv.Itoa(i))
			if i == size {
				l.asked(found(10*i+1, "", i+1))
			} else {
				l.asked(found(10*i+1, "", i+1), does(gets("/l")))
			}
		}
		l.shows(api.HeldDone, "", 10*size+1, api.OK, values...)
		l.begins()
	}
}

// TestCounterNumbers: P20.9, what Data may be: a number as strconv writes it, from 0 on; MaxNumber is lost by ErrNumber.
func TestCounterNumbers(t *testing.T) {
	for data, next := range map[string]string{"0": "1", "1": "2", "9": "10", "10": "11", "99": "100", "2147483645": "2147483646", "2147483646": "2147483647"} {
		for _, version := range []int{0, 1, 7, api.MaxNumber, -1} {
			l := counterOf(t, 1)
			l.asked(found(3, data, version), does(sets("/l", next, version)))
			l.asked(found(5, "", version))
			l.shows(api.HeldDone, "", 5, api.OK, next)
		}
	}
	l := counterOf(t, 1)
	l.asked(found(3, "2147483647", 0))
	l.shows(api.HeldOut, "", 0, api.ErrNumber)
	for _, data := range []string{"", " ", "x", "00", "01", "-0", "-1", "+0", "+1", "1 ", " 1", "1x", "1.0", "1e3", "0x1", "1_000", "٣", "1\x00", "2147483648", "2147483657", "4294967295", "4294967296", "4294967297", "9223372036854775807", "9223372036854775808", "18446744073709551616", "18446744073709551617", "-9223372036854775808", "99999999999999999999999999999999"} {
		l := counterOf(t, 1)
		l.asked(found(3, data, 0))
		l.shows(api.HeldOut, "", 0, api.ErrJob)
	}
}

// TestCounterAnswers: P20.9, each answer with each code.
func TestCounterAnswers(t *testing.T) {
	for _, code := range allCodes() {
		if code == api.OK {
			continue
		}
		l := counterOf(t, 2)
		if code == api.ErrNoNode {
			l.asked(refusal(3, code), does(makes("/l", "0", 0)))
			l.shows(api.HeldAsking, "", 0, api.OK)
			l.asked(made(4, "/l"), does(gets("/l")))
		} else {
			l.asked(refusal(3, code))
			l.shows(api.HeldOut, "", 0, code)
		}
		l = counterOf(t, 2)
		l.asked(found(3, "4", 2), does(sets("/l", "5", 2)))
		if code == api.ErrNoNode || code == api.ErrVersion {
			l.asked(refusal(4, code), does(gets("/l")))
			l.shows(api.HeldAsking, "", 0, api.OK)
		} else {
			l.asked(refusal(4, code))
			l.shows(api.HeldOut, "", 0, code)
		}
	}
}

// TestCounterWithoutBase: P20.9, Base is gone: it is made again, and the answer to that is P20.3's.
func TestCounterWithoutBase(t *testing.T) {
	for _, code := range allCodes() {
		l := counterOf(t, 2)
		l.asked(found(3, "4", 2), does(sets("/l", "5", 2)))
		l.asked(found(4, "", 3), does(gets("/l")))
		l.asked(refusal(5, api.ErrNoNode), does(makes("/l", "0", 0)))
		l.shows(api.HeldAsking, "", 4, api.OK, "5")
		r := api.Reply{Stamp: 6, Code: code, Results: make([]api.Result, 1)}
		if code == api.OK || code == api.ErrExists || code == api.ErrRoot {
			l.asked(r, does(gets("/l")))
			l.shows(api.HeldAsking, "", 4, api.OK, "5")
			continue
		}
		l.asked(r)
		l.shows(api.HeldOut, "", 4, code, "5")
	}
}

// TestCounterLeft: P20.4, what was set when the counter is left counts; nothing else is asked.
func TestCounterLeft(t *testing.T) {
	l := counterOf(t, 3)
	l.asked(found(3, "4", 2), does(sets("/l", "5", 2)))
	l.calls()
	l.leaves()
	l.answers(found(6, "", 3))
	l.shows(api.HeldDone, "", 6, api.OK, "5")
	l = counterOf(t, 3)
	l.leaves()
	l.asked(found(3, "none", 2))
	l.shows(api.HeldDone, "", 0, api.OK)
}
