package view_test

import (
	"testing"

	"herald/api"
	"herald/view"
)

// TestNew: P12.1, of every number of nodes from none to one above MaxPeers, and at the ends of the numbers.
func TestNew(t *testing.T) {
	for _, nodes := range about(6) {
		s, code := view.New(nodes)
		if nodes < 1 || nodes > 5 {
			if s != nil || code != api.ErrArg {
				t.Errorf("P12.1: New(%d) = %v, %d", nodes, s != nil, code)
			}
			continue
		}
		if s == nil || code != api.OK {
			t.Fatalf("P12.1: New(%d) = %v, %d", nodes, s != nil, code)
		}
		if nodes == 1 {
			stands(t, s, false, api.View{Num: 1, Primary: 1})
		} else {
			stands(t, s, false, api.View{Num: 1, Primary: 1, Backup: 2})
		}
	}
}

// TestNodes: P12.1, the nodes of a service are 1 to their number, no more and no fewer.
func TestNodes(t *testing.T) {
	for nodes := 1; nodes <= 5; nodes++ {
		for backup := 2; backup <= 7; backup++ {
			s, _ := long(t, nodes, 1, true)
			want := api.OK
			if backup > nodes {
				want = api.ErrView
			}
			is(t, "P12.1: of "+tell(nodes)+" nodes, Promote(1, "+tell(backup)+")", s.Promote(1, backup), want)
		}
	}
}

// TestExamples: the chapter's examples, line by line.
func TestExamples(t *testing.T) {
	for _, nodes := range []int{0, api.MaxPeers + 1} {
		_, code := view.New(nodes)
		is(t, "P12.1: New("+tell(nodes)+")", code, api.ErrArg)
	}
	s := made(t, 3)
	stands(t, s, false, viewOf(1, 1, 2))
	is(t, "P12.2: Promote(2, 3)", s.Promote(2, 3), api.ErrUnready)
	is(t, "P12.3: Settle(1, 2)", s.Settle(1, 2), api.ErrView)
	is(t, "P12.3: Settle(2, 1)", s.Settle(2, 1), api.ErrView)
	is(t, "P12.3: Settle(1, 1)", s.Settle(1, 1), api.OK)
	stands(t, s, true, viewOf(1, 1, 2))
	is(t, "P12.2: Promote(3, 1)", s.Promote(3, 1), api.ErrView)
	is(t, "P12.2: Promote(2, 2)", s.Promote(2, 2), api.ErrView)
	is(t, "P12.2: Promote(2, 4)", s.Promote(2, 4), api.ErrView)
	is(t, "P12.2: Promote(2, -1)", s.Promote(2, -1), api.ErrView)
	is(t, "P12.2: Promote(2, 3)", s.Promote(2, 3), api.OK)
	stands(t, s, false, viewOf(1, 1, 2), viewOf(2, 2, 3))
	answers(t, s, 101, asking(), told(viewOf(2, 2, 3))...)
	answers(t, s, 3, settled(2))
	stands(t, s, false, viewOf(1, 1, 2), viewOf(2, 2, 3))
	answers(t, s, 2, settled(2))
	stands(t, s, true, viewOf(1, 1, 2), viewOf(2, 2, 3))
	is(t, "P12.2: Promote(3, 0)", s.Promote(3, 0), api.OK)
	is(t, "P12.3: Settle(3, 3)", s.Settle(3, 3), api.OK)
	is(t, "P12.2: Promote(0, 1) where nobody is the backup", s.Promote(0, 1), api.ErrView)
	is(t, "P12.2: Promote(3, 1)", s.Promote(3, 1), api.OK)
	stands(t, s, false, viewOf(1, 1, 2), viewOf(2, 2, 3), viewOf(3, 3, 0), viewOf(4, 3, 1))
	stands(t, made(t, 1), false, viewOf(1, 1, 0))
}

// promoted is what Promote says in a settled view.
func promoted(nodes int, now api.View, primary, backup int) api.Errno {
	for number := 1; number <= nodes; number++ {
		if primary == number && (number == now.Primary || number == now.Backup) {
			for other := 0; other <= nodes; other++ {
				if backup == other && other != number {
					return api.OK
				}
			}
		}
	}
	return api.ErrView
}

// TestPromote: P12.2, P12.4 and P12.6, from every view that there may be, to all primaries and backups around those of the nodes and at the ends of the numbers; what is refused changes nothing.
func TestPromote(t *testing.T) {
	for nodes := 1; nodes <= 5; nodes++ {
		for _, pair := range pairs(nodes) {
			s, views := serving(t, nodes, pair[0], pair[1])
			now := views[len(views)-1]
			stands(t, s, false, views...)
			for _, primary := range about(nodes) {
				for _, backup := range about(nodes) {
					is(t, "P12.2: Promote in a view that is not settled", s.Promote(primary, backup), api.ErrUnready)
				}
			}
			stands(t, s, false, views...)
			is(t, "P12.3: Settle", s.Settle(now.Num, now.Primary), api.OK)
			stands(t, s, true, views...)
			promoteAll(t, s, nodes, views)
		}
	}
}

// promoteAll tries all primaries and backups behind the settled view of a service; each that may follow, on a service of its own.
func promoteAll(t *testing.T, s *view.Service, nodes int, views []api.View) {
	t.Helper()
	now := views[len(views)-1]
	for _, primary := range about(nodes) {
		for _, backup := range about(nodes) {
			want := promoted(nodes, now, primary, backup)
			if want != api.OK {
				is(t, "P12.2: behind "+tell(now)+", of "+tell(nodes)+" nodes, Promote("+tell(primary)+", "+tell(backup)+")", s.Promote(primary, backup), want)
				continue
			}
			other, _ := serving(t, nodes, now.Primary, now.Backup)
			other.Settle(now.Num, now.Primary)
			is(t, "P12.2: behind "+tell(now)+", of "+tell(nodes)+" nodes, Promote("+tell(primary)+", "+tell(backup)+")", other.Promote(primary, backup), api.OK)
			stands(t, other, false, append(views[:len(views):len(views)], viewOf(now.Num+1, primary, backup))...)
		}
	}
	stands(t, s, true, views...)
}

// TestSameAgain: P12.2, a view may have the same nodes as the one ahead, and has a number of its own.
func TestSameAgain(t *testing.T) {
	for nodes := 1; nodes <= 5; nodes++ {
		s, views := long(t, nodes, 1, true)
		for num := 2; num < 9; num++ {
			is(t, "P12.2: Promote", s.Promote(views[0].Primary, views[0].Backup), api.OK)
			views = append(views, viewOf(num, views[0].Primary, views[0].Backup))
			stands(t, s, false, views...)
			is(t, "P12.3: Settle of the view ahead", s.Settle(num-1, 1), api.ErrView)
			is(t, "P12.3: Settle", s.Settle(num, 1), api.OK)
			stands(t, s, true, views...)
		}
	}
}

// TestSettle: P12.3 and P12.6, of every view that there may be, at all numbers and nodes around the present ones, of older and of later views; what is refused changes nothing, whether the view is settled or not.
func TestSettle(t *testing.T) {
	for nodes := 1; nodes <= 5; nodes++ {
		for _, pair := range pairs(nodes) {
			s, views := serving(t, nodes, pair[0], pair[1])
			now := views[len(views)-1]
			refuse := func(isSettled bool) {
				for _, num := range append(ends(), now.Num-1, now.Num, now.Num+1) {
					for _, node := range about(nodes) {
						if num != now.Num || node != now.Primary {
							is(t, "P12.3: in "+tell(now)+", Settle("+tell(num)+", "+tell(node)+")", s.Settle(num, node), api.ErrView)
						}
					}
				}
				stands(t, s, isSettled, views...)
			}
			refuse(false)
			for range 3 {
				is(t, "P12.3: Settle", s.Settle(now.Num, now.Primary), api.OK)
				stands(t, s, true, views...)
				refuse(true)
			}
		}
	}
}

// TestSettleOlder: P12.3, the primary of an older view does not settle it once there is a later one, nor a later one ahead of its time.
func TestSettleOlder(t *testing.T) {
	s, views := long(t, 2, 9, false)
	for _, v := range views[:8] {
		is(t, "P12.3: Settle of an older view", s.Settle(v.Num, v.Primary), api.ErrView)
		answers(t, s, v.Primary, settled(v.Num))
	}
	is(t, "P12.3: Settle of a later view", s.Settle(10, 2), api.ErrView)
	is(t, "P12.3: Settle of a later view", s.Settle(10, 1), api.ErrView)
	stands(t, s, false, views...)
	is(t, "P12.3: Settle", s.Settle(9, 1), api.OK)
	stands(t, s, true, views...)
}

// TestFull: P12.2, there may be MaxSteps + 1 views, and not one more; what is refused changes nothing, and the last view may be settled as often as one likes.
func TestFull(t *testing.T) {
	for nodes := 1; nodes <= 5; nodes++ {
		s, views := long(t, nodes, 400, true)
		is(t, "P12.2: Promote to the view MaxSteps + 1", s.Promote(1, 0), api.OK)
		views = append(views, viewOf(401, 1, 0))
		for range 2 {
			stands(t, s, false, views...)
			is(t, "P12.2: Promote where there is no room for a view, ahead of settling", s.Promote(1, 0), api.ErrUnready)
		}
		for range 2 {
			is(t, "P12.3: Settle", s.Settle(401, 1), api.OK)
			stands(t, s, true, views...)
			is(t, "P12.2: Promote where there is no room for a view", s.Promote(1, 0), api.ErrNumber)
			is(t, "P12.2: Promote where there is no room for a view", s.Promote(1, firstOf(nodes).Backup), api.ErrNumber)
			is(t, "P12.3: Settle of a view that there is not", s.Settle(402, 1), api.ErrView)
		}
		stands(t, s, true, views...)
	}
}

// TestOrder: P12.2 and W4, of several reasons to refuse the first one is told: not settled, then the nodes, then the numbers.
func TestOrder(t *testing.T) {
	wrong := [][2]int{{0, 1}, {0, 0}, {1, 1}, {2, 2}, {3, 1}, {1, 4}, {1, -1}, {-1, 2}, {4, 0}, {most + 1, 2}, {1, most + 1}}
	for _, number := range []int{1, 2, 399, 400, 401} {
		for _, isSettled := range []bool{false, true} {
			s, views := long(t, 3, number, isSettled)
			for _, pair := range append(wrong, [2]int{1, 2}, [2]int{2, 3}, [2]int{1, 0}) {
				fits := promoted(3, views[number-1], pair[0], pair[1]) == api.OK
				want := first(reason{!isSettled, api.ErrUnready}, reason{!fits, api.ErrView}, reason{number > 400, api.ErrNumber})
				if want != api.OK {
					is(t, "P12.2: behind "+tell(number)+" views, Promote"+tell(pair), s.Promote(pair[0], pair[1]), want)
				}
			}
			stands(t, s, isSettled, views...)
		}
	}
}

// answers holds what a service answers to a note.
func answers(t *testing.T, s *view.Service, from int, n api.Note, want ...api.Note) {
	t.Helper()
	if got := s.Take(from, n); !sameNotes(got, want) {
		t.Errorf("P12.5: Take(%d, a note of kind %d) = %s, want %s", from, n.Kind, tell(got), tell(want))
	}
}

// TestTake: P12.5, notes of every kind, bare and with something in every field, of every view, from every address, in a view that is settled and in one that is not.
func TestTake(t *testing.T) {
	for _, pair := range [][2]int{{1, 2}, {2, 0}, {3, 1}} {
		for _, isSettled := range []bool{false, true} {
			s, views := serving(t, 3, pair[0], pair[1])
			now := views[len(views)-1]
			if isSettled {
				s.Settle(now.Num, now.Primary)
			}
			for _, from := range about(3) {
				for _, kind := range kinds() {
					for _, num := range []int{now.Num - 1, now.Num, now.Num + 1} {
						takeBoth(t, s, now, from, kind, num)
					}
				}
			}
			stands(t, s, isSettled, views...)
			answers(t, s, now.Primary, full(api.NoteSettled, now.Num))
			stands(t, s, true, views...)
		}
	}
}

// takeBoth hands a service a bare note and one with something in every field, but for those that would settle its view.
func takeBoth(t *testing.T, s *view.Service, now api.View, from, kind, num int) {
	t.Helper()
	if kind == api.NoteSettled && from == now.Primary && num == now.Num {
		return
	}
	var want []api.Note
	if kind == api.NoteAsk {
		want = told(now)
	}
	answers(t, s, from, api.Note{Kind: kind}, want...)
	answers(t, s, from, full(kind, num), want...)
}

// TestTakeSettled: P12.5, NoteSettled settles the present view, if it has its number and comes from its primary; whatever else the note has.
func TestTakeSettled(t *testing.T) {
	for nodes := 1; nodes <= 5; nodes++ {
		for _, pair := range pairs(nodes) {
			for _, make := range []func(int) api.Note{settled, func(num int) api.Note { return full(api.NoteSettled, num) }} {
				s, views := serving(t, nodes, pair[0], pair[1])
				now := views[len(views)-1]
				for _, num := range append(ends(), now.Num-1, now.Num, now.Num+1) {
					for _, from := range about(nodes) {
						if num != now.Num || from != now.Primary {
							answers(t, s, from, make(num))
						}
					}
				}
				stands(t, s, false, views...)
				for range 2 {
					answers(t, s, now.Primary, make(now.Num))
					stands(t, s, true, views...)
				}
				answers(t, s, now.Primary, make(now.Num-1))
				answers(t, s, now.Backup, make(now.Num))
				stands(t, s, true, views...)
				is(t, "P12.5: Promote behind NoteSettled", s.Promote(now.Primary, 0), api.OK)
			}
		}
	}
}

// TestAsk: P12.5, who asks is told the present view, also when there is a new one, settled or not.
func TestAsk(t *testing.T) {
	s, _ := long(t, 2, 1, false)
	for num := 1; num <= 401; num++ {
		now := viewOf(num, 2-num%2, 1+num%2)
		for _, from := range []int{0, 1, 2, 3, 101, 106, -1, most + 1} {
			answers(t, s, from, asking(), told(now)...)
		}
		is(t, "P12.3: Settle", s.Settle(num, now.Primary), api.OK)
		answers(t, s, 101, full(api.NoteAsk, 77), told(now)...)
		s.Promote(now.Backup, now.Primary)
	}
}

// TestNone: P12.6, a nil and a zero service have no view, whatever they are asked, and stay so.
func TestNone(t *testing.T) {
	for name, s := range empties() {
		for _, a := range about(6) {
			for _, b := range about(6) {
				is(t, "P12.6: Promote of "+name, s.Promote(a, b), api.ErrUnready)
				is(t, "P12.6: Settle of "+name, s.Settle(a, b), api.ErrView)
			}
			for _, kind := range kinds() {
				answers(t, s, a, api.Note{Kind: kind})
				answers(t, s, a, full(kind, 1))
			}
		}
		if s.Settled() || s.Now() != (api.View{}) || len(s.All()) != 0 {
			t.Errorf("P12.6: %s has the views %v, the present one is %v, settled: %v", name, s.All(), s.Now(), s.Settled())
		}
	}
}

// TestInTurns: W2 and P12.6, services that are called in turns know nothing of each other.
func TestInTurns(t *testing.T) {
	one, other := made(t, 3), made(t, 2)
	is(t, "P12.3: Settle", one.Settle(1, 1), api.OK)
	stands(t, one, true, viewOf(1, 1, 2))
	stands(t, other, false, viewOf(1, 1, 2))
	is(t, "P12.2: Promote", one.Promote(2, 3), api.OK)
	is(t, "P12.2: Promote", other.Promote(2, 1), api.ErrUnready)
	stands(t, other, false, viewOf(1, 1, 2))
	is(t, "P12.3: Settle", other.Settle(1, 1), api.OK)
	stands(t, one, false, viewOf(1, 1, 2), viewOf(2, 2, 3))
	is(t, "P12.2: Promote", other.Promote(1, 3), api.ErrView)
	is(t, "P12.2: Promote", other.Promote(1, 0), api.OK)
	stands(t, one, false, viewOf(1, 1, 2), viewOf(2, 2, 3))
	stands(t, other, false, viewOf(1, 1, 2), viewOf(2, 1, 0))
}
