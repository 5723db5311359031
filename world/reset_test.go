package world_test

import (
	"testing"

	"herald/api"
	"herald/world"
)

// brings lets the first message in flight of such a kind arrive; drains lets all others fall.
func brings(t *testing.T, w *world.World, from, to, kind int) {
	t.Helper()
	for i, f := range flying(t, w) {
		if f == [3]int{from, to, kind} {
			plays(t, w, delivers(i))
			return
		}
	}
	t.Fatalf("no note of kind %d from %d to %d is in flight, but %v", kind, from, to, flying(t, w))
}

func drains(t *testing.T, w *world.World) {
	t.Helper()
	for range flying(t, w) {
		plays(t, w, drops(0))
	}
}

// adopts lets a node hear of the present view; what it sends then is left in flight.
func adopts(t *testing.T, w *world.World, i int) {
	t.Helper()
	plays(t, w, ticks(i))
	brings(t, w, i, 0, api.NoteAsk)
	brings(t, w, 0, i, api.NoteTell)
}

// TestFullTransferTakesBack: P0.1, P0.4, P0.10 and P17.9, a full transfer takes from a node what it acknowledged in an earlier view, as its primary knows of no commit as yet; the primary has it, nothing of the history is lost, and the node has it again.
func TestFullTransferTakesBack(t *testing.T) {
	w := begun(t, rulesOf(2, 1))
	plays(t, w, calms(4), begins(1))
	brings(t, w, 101, 1, api.NoteOpen)
	brings(t, w, 1, 2, api.NoteAppend)
	is(t, "in flight", flying(t, w), [][3]int{{2, 1, api.NoteAcked}})
	drains(t, w) // the primary does not hear that the backup has the entry
	plays(t, w, promotes(2, 1))
	adopts(t, w, 2)
	adopts(t, w, 1)
	brings(t, w, 1, 2, api.NoteJoin)
	is(t, "P17.6: the history's length, now that the new primary has committed", len(w.History()), 1)
	brings(t, w, 2, 0, api.NoteSettled)
	drains(t, w)
	plays(t, w, ticks(101))
	brings(t, w, 101, 0, api.NoteAsk)
	brings(t, w, 0, 101, api.NoteTell)
	brings(t, w, 101, 2, api.NoteOpen)
	brings(t, w, 2, 101, api.NoteOpened)
	plays(t, w, does(1, makes("/a", "x")))
	brings(t, w, 101, 2, api.NoteCall) // an entry that the other one never hears of
	drains(t, w)
	plays(t, w, promotes(1, 2))
	adopts(t, w, 1)
	adopts(t, w, 2)
	brings(t, w, 2, 1, api.NoteJoin)
	before, _ := w.Sight(2)
	is(t, "P17.7: the commit and the last of the node 2", []int{before.Commit, before.Last}, []int{1, 2})
	brings(t, w, 1, 2, api.NoteFull)
	after, _ := w.Sight(2)
	is(t, "P17.7: the commit and the last of the node 2 behind a full transfer", []int{after.Commit, after.Last}, []int{0, 0})
	primary, _ := w.Sight(1)
	is(t, "P17.7: the commit and the last of the primary", []int{primary.Commit, primary.Last}, []int{0, 1})
	is(t, "P0.1: the history's length", len(w.History()), 1)
	drains(t, w)
	plays(t, w, crashes(2), restarts(2), crashes(1), restarts(1))
	told := plays(t, w, calms(24), calms(1))
	if len(told) != 1 || told[0].Kind != api.ToldReply || told[0].Stamp != 2 {
		t.Errorf("P17.9: in the end %s is told", tell(told))
	}
	history := w.History()
	if len(history) != 2 || history[0].Kind != api.EntryOpen || history[1].View != 3 {
		t.Errorf("P0.1: the history is %s", tell(history))
	}
	for i := 1; i <= 2; i++ {
		s, _ := w.Sight(i)
		is(t, "P17.9: the commit and the last of a member", []int{s.Commit, s.Last}, []int{2, 2})
	}
}
