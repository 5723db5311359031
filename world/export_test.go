package world

import "herald/api"

// Post puts messages on the line that nobody of the world has sent.
func (w *World) Post(messages ...api.Message) { w.line.Send(messages...) }

// Lay puts bytes in the place of a node's disk.
func (w *World) Lay(node int, disk []byte) { w.servers[node].disk = disk }
