package wire

import (
	"bytes"
	"iter"
	"slices"

	"herald/api"
)

// biteBytes is how much of a piece is taken in at a time, so that the room stays small behind a great piece.
const biteBytes = 65536

// Stream finds frames in bytes that come in pieces.
type Stream struct {
	room    []byte   // what is not decided yet
	found   [][]byte // bodies that nobody has been given yet
	skipped int
}

// Feed takes the next piece.
func (s *Stream) Feed(piece []byte) {
	if s == nil {
		return
	}
	for bite := range slices.Chunk(piece, biteBytes) {
		s.room = append(s.room, bite...)
		decided := s.decide()
		left := copy(s.room, s.room[decided:])
		s.room = s.room[:left]
	}
}

// Bodies hands on the bodies of the frames that have come whole, and forgets them, as far as it is asked.
func (s *Stream) Bodies() iter.Seq[[]byte] {
	return func(yield func([]byte) bool) {
		for {
			// Taken out ahead of handing it on: who gets it may feed, and range, meanwhile.
			body, ok := s.take()
			if !ok || !yield(body) {
				return
			}
		}
	}
}

// Skipped is the number of bytes that were no part of a frame.
func (s *Stream) Skipped() int {
	if s == nil {
		return 0
	}
	return s.skipped
}

// decide finds the frames in the room, counts what it skips, and tells how many bytes it is through with.
func (s *Stream) decide() int {
	at := 0
	for {
		body, code := firstBody(s.room[at:])
		switch code {
		case api.OK:
			s.found = append(s.found, bytes.Clone(body))
			at += around + len(body)
		case api.ErrShort:
			return at
		default:
			s.skipped++
			at++
		}
	}
}

// take is the next body that nobody has been given.
func (s *Stream) take() ([]byte, bool) {
	if s == nil || len(s.found) == 0 {
		return nil, false
	}
	body := s.found[0]
	// Neither the body nor, behind the last one, the list is held on to.
	s.found[0] = nil
	s.found = s.found[1:]
	if len(s.found) == 0 {
		s.found = nil
	}
	return body, true
}
