package pair_test

import (
	"slices"
	"testing"

	"herald/api"
)

// step is one step of a play by chance.
func (p *play) step() {
	s := pick(p.c, p.servers...)
	if s.core == nil {
		if p.c.IntN(3) == 0 {
			s.start(p)
		}
		return
	}
	// At times a server stops, or stops within what it does.
	stop := -1
	if p.c.IntN(p.rest) == 0 {
		stop = p.c.IntN(1 << 20)
	}
	if p.c.IntN(p.rest) == 0 {
		s.core = nil
		p.seen["crash"]++
		return
	}
	switch p.c.IntN(30) {
	case 0, 1:
		s.does(p, s.core.Tick(), stop)
	case 2, 3:
		v := pick(p.c, append(p.views, p.now(), p.now())...)
		s.does(p, s.core.Adopt(v), stop)
	case 4:
		p.turn()
	case 5, 6, 7:
		p.grant()
	case 8:
		p.save(s)
	case 9, 10, 11, 12, 13, 14, 15:
		p.propose(s, stop)
	default:
		p.deliver(p.pickNote(), stop)
	}
}

// turn makes the next view, if it may come.
func (p *play) turn() {
	if !p.settled || len(p.views) > 60 {
		return
	}
	now := p.now()
	primary := pick(p.c, now.Primary, now.Backup, now.Backup)
	if primary == 0 {
		primary = now.Primary
	}
	backup := p.c.IntN(len(p.servers) + 1)
	if backup == primary {
		backup = 0
	}
	p.addView(primary, backup)
	p.seen["view"]++
}

func (p *play) propose(s *server, stop int) {
	p.asked++
	e := request(p.c.IntN(99))
	e.Session, e.Request = 1+p.c.IntN(3), p.asked
	stamp, act, code := s.core.Propose(e)
	if code != api.OK {
		p.seen["refused "+tell(int(code))]++
		return
	}
	s.does(p, act, stop)
	if s.core != nil && s.tape.last() != stamp {
		p.t.Fatalf("P13.4: the entry %d stands at %d", stamp, s.tape.last())
	}
	p.seen["proposed"]++
}

// save lets a server make its journal short: what is at the commit or below is a state.
func (p *play) save(s *server) {
	if p.c.IntN(3) > 0 {
		return
	}
	s.write(p, api.Record{Kind: api.RecordSave, Stamp: s.commit, Of: s.tape.view(s.commit), State: p.frozen(s.tape.upTo(s.commit))})
	p.seen["save"]++
}

// pickNote is mostly one of the newest notes.
func (p *play) pickNote() int {
	if p.c.IntN(4) == 0 {
		return p.c.IntN(len(p.flying) + 1)
	}
	return len(p.flying) - 1 - p.c.IntN(6)
}

// deliver lets a note come; it may come again, or be lost.
func (p *play) deliver(number, stop int) {
	if number < 0 || number >= len(p.flying) {
		return
	}
	m := p.flying[number]
	if p.c.IntN(3) > 0 {
		p.flying = slices.Delete(p.flying, number, number+1)
	}
	if p.c.IntN(12) > 0 {
		p.arrive(m, stop)
	}
	if len(p.flying) > 150 {
		p.flying = slices.Delete(p.flying, 0, 20)
	}
}

func (p *play) arrive(m sent, stop int) {
	if m.to == 0 {
		now := p.now()
		p.settled = p.settled || m.note.Kind == api.NoteSettled && m.note.View.Num == now.Num && m.from == now.Primary
		return
	}
	if s := p.servers[m.to-1]; s.core != nil {
		s.does(p, s.core.Take(m.from, m.note), stop)
	}
}

// grant answers a Want, if its time is not over: P13.8.
func (p *play) grant() {
	if len(p.wishes) == 0 {
		return
	}
	number := p.c.IntN(len(p.wishes))
	w := p.wishes[number]
	if p.c.IntN(2) == 0 {
		p.wishes = slices.Delete(p.wishes, number, number+1)
	}
	s := p.servers[w.server-1]
	if s.core == nil || s.core.View().Num != w.num {
		return
	}
	p.flying = append(p.flying, sent{w.server, w.to, full(w.num, s.commit, s.tape.view(s.commit), p.frozen(s.tape.upTo(s.commit)))})
	p.seen["full"]++
}

// all lets everything that is sent come, and answers every Want, until nothing is under way.
func (p *play) all() {
	for len(p.flying)+len(p.wishes) > 0 {
		if len(p.wishes) > 0 {
			p.grant()
		}
		if len(p.flying) > 0 {
			m := p.flying[0]
			p.flying = p.flying[1:]
			p.arrive(m, -1)
		}
		p.holdsSettled()
	}
}

// calm: P13.16. It answers how many ticks were needed.
func (p *play) calm() int {
	v := p.now()
	members := []*server{p.servers[v.Primary-1]}
	if v.Backup > 0 {
		members = append(members, p.servers[v.Backup-1])
	}
	// What was under way before may come, or not.
	if p.c.IntN(2) == 0 {
		p.flying = nil
	}
	if p.c.IntN(2) == 0 {
		p.wishes = nil
	}
	for _, s := range members {
		if s.core == nil {
			s.start(p)
		}
		s.does(p, s.core.Adopt(v), -1)
	}
	for ticks := 0; ; ticks++ {
		if p.isCalm(members) {
			return ticks
		}
		if ticks == 3 {
			p.t.Fatalf("P13.16: behind %d ticks the view %v is not calm: %s", ticks, v, tell(members))
		}
		for _, s := range members {
			s.does(p, s.core.Tick(), -1)
		}
		p.all()
	}
}

func (p *play) isCalm(members []*server) bool {
	first := members[0].tape
	for _, s := range members {
		// Both have all that the primary has, and know that it is committed.
		if s.tape.last() != first.last() || s.tape.print(s.tape.last()) != first.print(first.last()) || s.commit != first.last() {
			return false
		}
	}
	return members[0].core.Active()
}

// TestPlays: P13.12 to P13.16, of two to four cores, whatever is lost, doubled, comes late or in another order, and wherever they stop.
func TestPlays(t *testing.T) {
	seen := map[string]int{}
	for seed := range uint64(400) {
		c := chanceOf(seed, 12)
		p := startPlay(t, c, 2+int(seed)%3)
		for range 4 {
			p.rest = pick(c, 12, 40, 200)
			for range 300 {
				p.step()
				p.holdsSettled()
			}
			ticks := p.calm()
			p.seen["calm behind "+tell(ticks)]++
		}
		for what, number := range p.seen {
			seen[what] += number
		}
		seen["committed"] += len(p.committed) - 1
	}
	for what, least := range map[string]int{
		"view": 1000, "proposed": 5000, "committed": 5000, "want": 500, "full": 500, "reset": 200, "crash": 1000, "stop": 1000, "torn": 300, "save": 500,
		"refused 130": 1000, "refused 131": 300, "calm behind 1": 100, "calm behind 2": 100,
	} {
		if seen[what] < least {
			t.Errorf("in the plays there is %q only %d times", what, seen[what])
		}
	}
}
