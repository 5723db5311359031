package view

import "herald/api"

// isNone tells whether there is no service, or a zero one: it has no view, and never gets one.
func (s *Service) isNone() bool {
	return s == nil || s.nodes == 0
}

// now is the present view.
func (s *Service) now() api.View {
	return s.views[len(s.views)-1]
}

// isNode tells whether a number is that of a node.
func (s *Service) isNode(number int) bool {
	return number >= 1 && number <= s.nodes
}

// mayFollow tells whether a view of these two may come behind the present one: only its nodes have all that was committed.
func (s *Service) mayFollow(primary, backup int) bool {
	now := s.now()
	if primary != now.Primary && primary != now.Backup {
		return false
	}
	// Where nobody is the present view's backup, 0 is, and may not serve.
	return s.isNode(primary) && primary != backup && (backup == 0 || s.isNode(backup))
}

// settle settles the present view, if it is meant and its primary says so.
func (s *Service) settle(num, node int) api.Errno {
	now := s.now()
	if num != now.Num || node != now.Primary {
		return api.ErrView
	}
	s.settled = true
	return api.OK
}

// taking is what the service does with a note of one kind.
type taking struct {
	answer func(from int, n api.Note) []api.Note
}

// takings are those of all kinds that the service knows.
func (s *Service) takings() map[int]taking {
	return map[int]taking{
		api.NoteAsk:     {answer: s.tell},
		api.NoteSettled: {answer: s.hear},
	}
}

// tell answers who serves.
func (s *Service) tell(int, api.Note) []api.Note {
	return []api.Note{{Kind: api.NoteTell, View: s.now()}}
}

// hear settles a view by its primary's note; a note that does not fit is left without an answer like one that does.
func (s *Service) hear(from int, n api.Note) []api.Note {
	s.settle(n.View.Num, from)
	return nil
}
