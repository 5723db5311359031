package pair_test

import (
	"fmt"
	"hash/fnv"
	"slices"
	"testing"

	"herald/api"
	"herald/journal"
	"herald/pair"
)

// tape is what a node has of the history, from its first entry on: of each stamp the view, and a number that no other entry there, nor one behind other entries, has.
type tape struct {
	views, prints []int
}

func (p tape) last() int { return len(p.views) }

// print is that of the entry with a stamp, and of all ahead of it.
func (p tape) print(stamp int) int {
	if stamp == 0 {
		return 0
	}
	return p.prints[stamp-1]
}

func (p tape) view(stamp int) int {
	if stamp == 0 {
		return 0
	}
	return p.views[stamp-1]
}

func (p tape) upTo(stamp int) tape {
	return tape{p.views[:stamp:stamp], p.prints[:stamp:stamp]}
}

func (p tape) with(e api.Entry) tape {
	sum := fnv.New64a()
	fmt.Fprint(sum, p.print(p.last()), e.Stamp, e.View, e.Kind, e.Session, e.Request, e.Ops)
	return tape{append(p.views, e.View), append(p.prints, int(sum.Sum64()))}
}

// server is a core with its journal, and what its player knows of it.
type server struct {
	core   *pair.Core // nil: it does not run
	self   int
	room   int
	disk   []byte
	number int // of the journal's last record
	tape   tape
	commit int
	fell   bool // it stopped within an act with a RecordReset
}

// sent is a note that went out.
type sent struct {
	from, to int
	note     api.Note
}

// wish is a Want that may still be answered.
type wish struct {
	server, to, num int
}

// spot is the stamp of an entry, and the view in which it was proposed.
type spot struct {
	stamp, view int
}

// play is a play of cores, as the chapter says.
type play struct {
	t       *testing.T
	c       chance
	servers []*server
	views   []api.View
	settled bool // the last of them: a NoteSettled has come
	flying  []sent
	wishes  []wish
	asked   int // so many entries were proposed
	rest    int // so seldom does a server stop
	states  map[string]tape

	// What P13.12 to P13.14 are about, of all times:
	prints    map[spot]int // of the entry there
	committed []int        // by stamp: the print of the entry that was committed
	reached   []int        // by view: how far any core has committed in it
	hasTold   []bool       // by view: its primary has said that it is settled

	seen map[string]int
}

func startPlay(t *testing.T, c chance, servers int) *play {
	p := &play{t: t, c: c, states: map[string]tape{"": {}}, prints: map[spot]int{}, committed: []int{0}, reached: []int{0}, hasTold: []bool{true}, seen: map[string]int{}}
	for i := range servers {
		s := &server{self: i + 1, room: pick(c, 1, 2, 3, 4, 5, 8, 20, 64)}
		p.servers = append(p.servers, s)
		s.start(p)
	}
	first := c.IntN(servers)
	p.addView(first+1, pick(c, 0, 1+(first+1)%servers, 1+(first+1)%servers, 1+(first+1)%servers))
	return p
}

func (p *play) addView(primary, backup int) {
	p.views = append(p.views, viewOf(len(p.views)+1, primary, backup))
	p.reached = append(p.reached, 0)
	p.hasTold = append(p.hasTold, false)
	p.settled = false
}

func (p *play) now() api.View { return p.views[len(p.views)-1] }

// frozen is the state of a machine that has played so much of a tape.
func (p *play) frozen(what tape) string {
	if what.last() == 0 {
		return ""
	}
	text := fmt.Sprintf("%d:%x", what.last(), what.print(what.last()))
	p.states[text] = what
	return text
}

// start starts a server over what its journal says.
func (s *server) start(p *play) {
	said, records, size := journal.Recover(s.disk)
	core, act, code := pair.New(s.self, s.room, said)
	if code != api.OK {
		p.t.Fatalf("P13.1: New(%d, %d, %s) says %d", s.self, s.room, tell(said), code)
	}
	if size < len(s.disk) {
		p.seen["torn"]++
	}
	s.core, s.disk, s.number = core, s.disk[:size], records
	if p.c.IntN(2) == 0 {
		s.disk, s.number, _ = journal.Compact(said)
	}
	before, was := s.tape, s.commit
	s.tape, s.commit = p.states[said.State], said.Commit
	if s.tape.last() != said.Stamp {
		p.t.Fatalf("P13.5: the state of stamp %d is one of %d entries", said.Stamp, s.tape.last())
	}
	s.tape = s.tape.upTo(said.Stamp)
	for _, e := range said.Entries {
		s.tape = s.tape.with(e)
	}
	s.keeps(p, before, was, s.fell)
	s.fell = false
	s.does(p, act, -1)
}

// keeps: P13.15, of a server that had this tape and this commit.
func (s *server) keeps(p *play, before tape, was int, fell bool) {
	if !fell && (s.commit < was || s.tape.print(was) != before.print(was)) {
		p.t.Fatalf("P13.15: the commit of %d goes from %d to %d", s.self, was, s.commit)
	}
}

// write puts a record into the journal, and plays it.
func (s *server) write(p *play, r api.Record) {
	s.number++
	data, code := journal.Encode(s.number, r)
	if code != api.OK {
		p.t.Fatalf("P13.9: the record %s says %d", tell(r), code)
	}
	s.disk = append(s.disk, data...)
	switch r.Kind {
	case api.RecordEntry:
		s.tape = s.tape.upTo(s.tape.last()).with(r.Entry)
	case api.RecordCommit:
		s.commit = r.Stamp
	case api.RecordReset:
		s.tape, s.commit = p.states[r.State].upTo(r.Stamp), r.Stamp
		p.seen["reset"]++
	}
}

// does lets a server do an act; or, if it stops within, only as many bytes of its records as are told.
func (s *server) does(p *play, act pair.Act, stop int) {
	before, was := s.tape, s.commit
	size := len(s.disk)
	fell := slices.ContainsFunc(act.Records, func(r api.Record) bool { return r.Kind == api.RecordReset })
	for _, r := range act.Records {
		s.write(p, r)
	}
	if stop >= 0 {
		// Nobody has seen what it held then.
		s.disk = s.disk[:size+stop%(1+len(s.disk)-size)]
		s.core, s.tape, s.commit, s.fell = nil, before, was, fell
		p.seen["stop"]++
		return
	}
	s.keeps(p, before, was, fell)
	for _, o := range act.Notes {
		p.flying = append(p.flying, sent{s.self, o.To, o.Note})
		if o.Note.Kind == api.NoteSettled {
			p.hasTold[o.Note.View.Num] = true
		}
	}
	for _, to := range act.Want {
		p.wishes = append(p.wishes, wish{s.self, to, s.core.View().Num})
		p.seen["want"]++
	}
	s.holds(p)
}

// holds that the core is as its journal says, and that no entry is another one than it was elsewhere.
func (s *server) holds(p *play) {
	floor, of := s.core.Log().Floor()
	last, _ := s.core.Log().Last()
	if last != s.tape.last() || s.core.Commit() != s.commit || floor > s.commit || of != s.tape.view(floor) || last-floor > s.room {
		p.t.Fatalf("P13.7: the log of %d has floor %d of %d and last %d, the journal %d of %d", s.self, floor, of, last, s.tape.last(), s.tape.view(floor))
	}
	logged := s.tape.upTo(floor)
	for e := range s.core.Log().All() {
		logged = logged.with(e)
	}
	if !slices.Equal(logged.prints, s.tape.prints) {
		p.t.Fatalf("P13.7: the log of %d is not what the journal says", s.self)
	}
	for stamp := floor; stamp <= last; stamp++ {
		place := spot{stamp, s.tape.view(stamp)}
		if print, known := p.prints[place]; known && print != s.tape.print(stamp) {
			p.t.Fatalf("P13.12: the entry %d of view %d is two entries", stamp, s.tape.view(stamp))
		}
		p.prints[place] = s.tape.print(stamp)
	}
	s.holdsCommitted(p)
	// It takes long, so it is not looked at each time.
	if p.c.IntN(10) == 0 {
		s.holdsJournal(p)
	}
}

// holdsJournal: all records fit one another, and say what the core tells.
func (s *server) holdsJournal(p *play) {
	said, records, size := journal.Recover(s.disk)
	if records != s.number || size != len(s.disk) || said.View != s.core.View() || said.Commit != s.commit || said.Stamp+len(said.Entries) != s.tape.last() {
		p.t.Fatalf("P13.9: the journal of %d says %s", s.self, tell(said))
	}
}

// holdsCommitted: P13.13, and what P13.14 is about is marked.
func (s *server) holdsCommitted(p *play) {
	for len(p.committed) <= s.commit {
		p.committed = append(p.committed, s.tape.print(len(p.committed)))
	}
	// The prints of all entries ahead of it are in that of the last.
	if p.committed[s.commit] != s.tape.print(s.commit) {
		p.t.Fatalf("P13.13: %d has committed another entry %d", s.self, s.commit)
	}
	num := s.core.View().Num
	p.reached[num] = max(p.reached[num], s.commit)
}

// holdsSettled: P13.14, of all cores that are primaries of settled views.
func (p *play) holdsSettled() {
	for _, s := range p.servers {
		if s.core == nil || s.core.View().Primary != s.self || !p.hasTold[s.core.View().Num] {
			continue
		}
		need := slices.Max(p.reached[:s.core.View().Num])
		if s.tape.last() < need || s.tape.print(need) != p.committed[need] {
			p.t.Fatalf("P13.14: the primary %d of view %d lacks what was committed up to %d", s.self, s.core.View().Num, need)
		}
		if s.core.Active() && s.commit < need {
			p.t.Fatalf("P13.14: the active primary %d of view %d has committed %d, others %d", s.self, s.core.View().Num, s.commit, need)
		}
	}
}
