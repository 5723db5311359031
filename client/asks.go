package client

import (
	"herald/api"
	"herald/note"
)

// letter is a note on its way to an address. What a client says is always a note that may be.
func (c *Client) letter(to int, n api.Note) api.Message {
	m, _ := note.Message(c.address(), to, n)
	return m
}

// toPrimary is a note of the session on its way to the primary that the client knows.
func (c *Client) toPrimary(n api.Note) api.Message {
	n.Session = c.id
	return c.letter(c.view.Primary, n)
}

// asks are the messages that what the client waits for needs.
func (c *Client) asks() []api.Message { return c.asksBut(0) }

// asksBut are the asks, but those of a kind.
func (c *Client) asksBut(kind int) []api.Message {
	var all []api.Message
	ask := func(n api.Note) {
		if n.Kind != kind {
			all = append(all, c.toPrimary(n))
		}
	}
	switch c.phase {
	case opening:
		ask(api.Note{Kind: api.NoteOpen})
	case ending:
		ask(api.Note{Kind: api.NoteClose})
	case open:
		c.askAll(ask)
	}
	return all
}

// askAll asks for all that a client with an open session waits for.
func (c *Client) askAll(ask func(api.Note)) {
	if !c.isResumed {
		ask(c.resume())
	}
	if c.isPending {
		ask(c.call())
	}
	if !c.isResumed {
		return
	}
	for _, w := range c.watches {
		if w.standing != granted {
			ask(c.move(w))
		}
	}
}

func (c *Client) resume() api.Note {
	n := api.Note{Kind: api.NoteResume, Conn: c.conn, Stamp: c.last}
	for _, w := range c.watches {
		if w.standing == granted {
			n.Watches = append(n.Watches, w.since())
		}
	}
	return n
}

func (c *Client) call() api.Note {
	return api.Note{Kind: api.NoteCall, Request: c.requests, Ops: c.ops}
}

// move is the note by which a watch that is asked, or leaving, gets on.
func (c *Client) move(w watch) api.Note {
	if w.standing == leaving {
		return api.Note{Kind: api.NoteUnwatch, Conn: c.conn, Watches: []api.Watch{{Id: w.id}}}
	}
	return api.Note{Kind: api.NoteWatch, Conn: c.conn, Watches: []api.Watch{w.plain()}}
}

// moveNow sends that note, if the connection can be used for it already.
func (c *Client) moveNow(w watch) []api.Message {
	if !c.isResumed {
		return nil
	}
	return []api.Message{c.toPrimary(c.move(w))}
}

// renew makes a new connection, which the primary does not know as yet.
func (c *Client) renew() {
	if c.conn < api.MaxNumber {
		c.conn++
	}
	c.isResumed = false
}
