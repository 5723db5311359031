package journal

import (
	"bytes"

	"herald/api"
	"herald/note"
	"herald/wire"
)

// How a record's bytes lie.
const (
	markHigh, markLow = 0x4A, 0x52
	kindPlace         = 2
	sizePlace         = 8
	headSize          = 16 // its own sum too
	sumSize           = 4
)

// unfit is what is given up with: a body that cannot be read, or a record that may not be.
type unfit struct{}

// must gives up unless what a record needs holds.
func must(holds bool) {
	if !holds {
		panic(unfit{})
	}
}

// tried is what work makes, and whether it did: whatever gives up inside of it ends here.
func tried[T any](work func() T) (made T, done bool) {
	defer func() {
		if recover() != nil {
			done = false
		}
	}()
	return work(), true
}

// word is a number in four bytes, the highest one first.
func word(v int) []byte {
	return []byte{byte(v >> 24), byte(v >> 16), byte(v >> 8), byte(v)}
}

func wordAt(data []byte, at int) int {
	v := 0
	for _, b := range data[at : at+sumSize] {
		v = v<<8 | int(b)
	}
	return v
}

// head is all that stands ahead of a body of that size.
func head(number, kind, size int) []byte {
	data := append([]byte{markHigh, markLow, byte(kind), 0}, word(number)...)
	data = append(data, word(size)...)
	return append(data, word(wire.Sum(data))...)
}

// pack puts a body between what stands ahead of it and behind it.
func pack(number, kind int, body []byte) []byte {
	data := append(head(number, kind, len(body)), body...)
	return append(data, word(wire.Sum(data))...)
}

// sizeAt is how many bytes the whole record takes that the bytes begin with.
func sizeAt(data []byte) int {
	return headSize + wordAt(data, sizePlace) + sumSize
}

// wholeRecord is the record of that number that the bytes begin with, and whether it is there.
func wholeRecord(number int, data []byte) (api.Record, bool) {
	return tried(func() api.Record {
		must(len(data) >= headSize)
		kind, size := int(data[kindPlace]), wordAt(data, sizePlace)
		must(bytes.Equal(data[:headSize], head(number, kind, size)))
		end := headSize + size
		must(len(data) >= end+sumSize)
		must(wordAt(data, end) == wire.Sum(data[:end]))
		return readBody(kind, data[headSize:end])
	})
}

// writeBody gives up on a record that may not be.
func writeBody(r api.Record) []byte {
	k := kindOf(r.Kind)
	mustBe(k, r)
	return k.write(r)
}

// readBody gives up on a body that is not what writeBody writes of some record.
func readBody(kind int, data []byte) api.Record {
	k, left := kindOf(kind), body(data)
	r := k.read(&left)
	r.Kind = kind
	must(len(left) == 0)
	mustBe(k, r)
	return r
}

// body is what is left to be read of one.
type body []byte

func (b *body) number() int {
	v, next, code := wire.ReadNumber(*b, 0)
	must(code == api.OK)
	*b = (*b)[next:]
	return v
}

func (b *body) text() string {
	s, next, code := wire.ReadText(*b, 0)
	must(code == api.OK)
	*b = (*b)[next:]
	return s
}

// entry takes all that is left: an entry's bytes are a whole body.
func (b *body) entry() api.Entry {
	e, code := note.DecodeEntry(*b)
	must(code == api.OK)
	*b = nil
	return e
}

// numbers gives up on a number that is below 0 or above MaxNumber, as package wire refuses it.
func numbers(all ...int) []byte {
	var data []byte
	for _, v := range all {
		piece, code := wire.Number(v)
		must(code == api.OK)
		data = append(data, piece...)
	}
	return data
}

func text(s string) []byte {
	data, code := wire.Text(s)
	must(code == api.OK)
	return data
}

func entryBytes(e api.Entry) []byte {
	data, code := note.EncodeEntry(e)
	must(code == api.OK)
	return data
}
