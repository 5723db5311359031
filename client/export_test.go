package client

import "herald/api"

// Age puts the numbers that only rise to where a very long life would have brought them.
func (c *Client) Age(conn, begun, highest, requests int) {
	c.conn, c.begun, c.highest, c.requests = conn, begun, highest, requests
}

// Known is the view that the client knows: its backup no answer shows.
func (c *Client) Known() api.View { return c.view }
