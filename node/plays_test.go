package node_test

import (
	"slices"
	"testing"

	"herald/api"
	"herald/note"
	"herald/state"
)

// step is one step of a play by chance.
func (p *play) step() {
	p.steps++
	h := pick(p.c, p.hosts...)
	if h.node == nil {
		if p.c.IntN(4) == 0 {
			h.start(p)
		}
		return
	}
	// At times a server stops, or stops within what it does.
	stop := -1
	if p.c.IntN(p.rest) == 0 {
		stop = p.c.IntN(1 << 20)
	}
	if p.c.IntN(p.rest) == 0 {
		h.node = nil
		p.seen["crash"]++
		return
	}
	switch p.c.IntN(40) {
	case 0, 1:
		written, sent := h.node.Tick()
		h.does(p, written, sent, stop)
	case 2:
		written, sent := h.node.Save()
		h.does(p, written, sent, stop)
	case 3:
		p.turn()
	case 4, 5, 6, 7, 8, 9, 10, 11, 12, 13, 14, 15, 16:
		p.ask(h)
	default:
		p.deliver(p.pickMessage(), stop)
	}
}

// turn makes the next view, if it may come.
func (p *play) turn() {
	if !p.settled || p.c.IntN(3) > 0 {
		return
	}
	now := p.now()
	primary := pick(p.c, now.Primary, now.Backup, now.Backup)
	if primary == 0 {
		primary = now.Primary
	}
	p.addView(primary, p.c.IntN(len(p.hosts)+1))
	p.seen["view"]++
}

// ask lets a client send something, mostly to the primary, or to the server that it is given.
func (p *play) ask(h *host) {
	to := pick(p.c, h.self, p.now().Primary, p.now().Primary, p.now().Primary)
	latest := p.committed[len(p.committed)-1]
	session := p.session(latest)
	n := p.c.client(session, latest.stamp, latest.last[session])
	if !latest.isOpen(session) && p.c.IntN(3) > 0 {
		n = opens(session)
	}
	m, code := note.Message(101+session%3, to, n)
	if code != api.OK {
		p.t.Fatalf("P3.6: Message of %s says %d", tellNote(n), code)
	}
	if p.c.IntN(8) == 0 {
		m.From = 101 + p.c.IntN(4)
	}
	p.flying = append(p.flying, m)
}

// session is mostly one that is open; else one of a few slots, the newer the later it is.
func (p *play) session(latest *page) int {
	m, _ := state.Thaw(latest.machine)
	if open := m.Sessions(); len(open) > 0 && p.c.IntN(5) > 0 {
		return pick(p.c, open...)
	}
	return 1 + p.c.IntN(4) + api.MaxSlots*max(0, p.steps/150+pick(p.c, 0, 0, 0, 0, 0, 0, -1, 1))
}

// pickMessage is mostly one of the newest.
func (p *play) pickMessage() int {
	if p.c.IntN(6) == 0 {
		return p.c.IntN(len(p.flying) + 1)
	}
	return len(p.flying) - 1 - p.c.IntN(6)
}

// deliver lets a message come; it may come again, or be lost.
func (p *play) deliver(number, stop int) {
	if number < 0 || number >= len(p.flying) {
		return
	}
	m := p.flying[number]
	if p.c.IntN(5) > 0 {
		p.flying = slices.Delete(p.flying, number, number+1)
	}
	if p.c.IntN(20) > 0 {
		p.arrive(m, stop)
	}
	if len(p.flying) > 120 {
		p.flying = slices.Delete(p.flying, 0, 30)
	}
}

func (p *play) arrive(m api.Message, stop int) {
	switch {
	case m.To == 0:
		p.serve(m)
	case m.To <= len(p.hosts) && p.hosts[m.To-1].node != nil:
		h := p.hosts[m.To-1]
		isSpoilt := p.c.IntN(30) == 0
		if isSpoilt {
			b := []byte(m.Bytes)
			b[p.c.IntN(len(b))] ^= byte(1 + p.c.IntN(255))
			m.Bytes = string(b)
			p.seen["spoilt"]++
		}
		written, sent := h.node.Take(m)
		if isSpoilt && len(written)+len(sent) > 0 {
			p.t.Fatalf("P14.4: %d takes a spoilt message", h.self)
		}
		h.does(p, written, sent, stop)
	}
}

// serve is what the service does: it says which view there is, and learns that it is settled.
func (p *play) serve(m api.Message) {
	n, _ := note.Open(m)
	now := p.now()
	switch {
	case n.Kind == api.NoteAsk:
		tell, _ := note.Message(0, m.From, api.Note{Kind: api.NoteTell, View: now})
		p.flying = append(p.flying, tell)
	case n.Kind == api.NoteSettled && n.View.Num == now.Num && m.From == now.Primary:
		p.settled = true
	}
}

// TestPlays: P14.10 to P14.13, of one to three servers, whatever is lost, doubled, comes late or in another order, and wherever they stop.
func TestPlays(t *testing.T) {
	const parts, plays = 4, 30
	seen := make([]map[string]int, parts*plays)
	t.Run("plays", func(t *testing.T) {
		for part := range parts {
			t.Run("", func(t *testing.T) {
				t.Parallel()
				for seed := range plays {
					seen[part*plays+seed] = playOut(t, chanceOf(uint64(seed), uint64(1400+part)), 1+seed%3)
				}
			})
		}
	})
	all := map[string]int{}
	for _, some := range seen {
		for what, number := range some {
			all[what] += number
		}
	}
	for what, least := range map[string]int{
		"committed": 3000, "view": 300, "crash": 1000, "stop": 400, "torn": 80, "spoilt": 500, "marker": 300,
		"entry 1": 1500, "entry 2": 1500, "entry 3": 500, "entry 4": 70, "record 3": 40, "record 4": 30, "record 5": 2000,
		"note 9": 3000, "note 10": 2000, "note 11": 2000, "note 12": 4000, "note 13": 100, "note 14": 500, "note 15": 6000, "note 19": 70, "note 24": 50,
	} {
		if all[what] < least {
			t.Errorf("in the plays there is %q only %d times", what, all[what])
		}
	}
}

// playOut plays so many servers, and tells how often what has happened.
func playOut(t *testing.T, c chance, servers int) map[string]int {
	p := startPlay(t, c, servers)
	for range 6 {
		p.rest = pick(c, 20, 100, 1000, 1000)
		for range 250 {
			p.step()
		}
	}
	p.seen["committed"] = len(p.committed) - 1
	return p.seen
}
