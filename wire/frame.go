package wire

import (
	"bytes"

	"herald/api"
)

const (
	mark      = "\xc5\x3a"
	wordBytes = 4
	sizeAt    = len(mark)
	headSumAt = sizeAt + wordBytes
	bodyAt    = headSumAt + wordBytes
	// around is what a frame takes beside its body.
	around = bodyAt + wordBytes
)

// Sum is the check sum of bytes.
func Sum(data []byte) int {
	// What each half of a byte turns the register by, once its four bits have gone out.
	turns := [16]uint32{
		0x00000000, 0x1db71064, 0x3b6e20c8, 0x26d930ac,
		0x76dc4190, 0x6b6b51f4, 0x4db26158, 0x5005713c,
		0xedb88320, 0xf00f9344, 0xd6d6a3e8, 0xcb61b38c,
		0x9b64c2b0, 0x86d3d2d4, 0xa00ae278, 0xbdbdf21c,
	}
	register := ^uint32(0)
	for _, b := range data {
		register ^= uint32(b)
		register = register>>4 ^ turns[register&15]
		register = register>>4 ^ turns[register&15]
	}
	return int(^register)
}

// Frame puts a frame around several pieces of a body.
func Frame(pieces ...[]byte) ([]byte, api.Errno) {
	n := 0
	for _, piece := range pieces {
		n += len(piece)
		if n > api.MaxFrame {
			return nil, api.ErrLong
		}
	}
	frame := make([]byte, 0, around+n)
	frame = append(frame, mark...)
	frame = appendWord(frame, n)
	frame = appendWord(frame, Sum(frame))
	for _, piece := range pieces {
		frame = append(frame, piece...)
	}
	return appendWord(frame, Sum(frame)), api.OK
}

// Unframe reads bytes that are wholly one frame.
func Unframe(data []byte) ([]byte, api.Errno) {
	if len(data) < bodyAt {
		return nil, api.ErrShort
	}
	body, code := firstBody(data)
	if code != api.OK {
		return nil, code
	}
	if len(data) > around+len(body) {
		return nil, api.ErrFrame
	}
	return bytes.Clone(body), api.OK
}

// firstBody is the body of the frame at the front of the bytes, as a piece of them. ErrShort: more must come to tell. ErrFrame: no frame is there, whatever comes.
func firstBody(data []byte) ([]byte, api.Errno) {
	if !beginsMark(data) {
		return nil, api.ErrFrame
	}
	if len(data) < bodyAt {
		return nil, api.ErrShort
	}
	if Sum(data[:headSumAt]) != word(data[headSumAt:]) {
		return nil, api.ErrFrame
	}
	n := word(data[sizeAt:])
	if n > api.MaxFrame {
		return nil, api.ErrFrame
	}
	if len(data) < around+n {
		return nil, api.ErrShort
	}
	end := bodyAt + n
	if Sum(data[:end]) != word(data[end:]) {
		return nil, api.ErrFrame
	}
	return data[bodyAt:end], api.OK
}

// beginsMark says whether the bytes, as far as they have come, may begin a frame.
func beginsMark(data []byte) bool {
	seen := min(len(data), len(mark))
	return string(data[:seen]) == mark[:seen]
}

func appendWord(room []byte, v int) []byte {
	return append(room, byte(v>>24), byte(v>>16), byte(v>>8), byte(v))
}

func word(data []byte) int {
	return int(data[0])<<24 | int(data[1])<<16 | int(data[2])<<8 | int(data[3])
}
