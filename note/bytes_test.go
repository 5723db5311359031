package note_test

import (
	"bytes"
	"encoding/hex"
	"math/rand"
	"slices"
	"strings"
	"testing"

	"herald/api"
	"herald/note"
)

func unhex(t *testing.T, text string) []byte {
	t.Helper()
	data, err := hex.DecodeString(strings.ReplaceAll(text, " ", ""))
	if err != nil {
		t.Fatal(err)
	}
	return data
}

func encoded(t *testing.T, n api.Note) []byte {
	t.Helper()
	data, code := note.Encode(n)
	if code != api.OK {
		t.Fatalf("P3.3: Encode = %d: %.300v", code, n)
	}
	return data
}

// holdsReading holds a call that reads against its second reckoning, and tells whether the bytes are what is written of something.
func holdsReading[T any](t *testing.T, data []byte, read func([]byte) (T, api.Errno), write func(T) ([]byte, api.Errno), again func([]byte) (T, bool)) bool {
	t.Helper()
	want, ok := again(data)
	got, code := read(data)
	if ok && code != api.OK || !ok && code != api.ErrNote || !same(got, want) {
		t.Fatalf("P3.4, P3.5: %.100x is read as %.300v, %d, want %.300v, %v", data, got, code, want, ok)
	}
	if written, code := write(got); ok && (code != api.OK || !bytes.Equal(written, data)) {
		t.Fatalf("P3.8: %.100x is read, and written as %.100x, %d", data, written, code)
	}
	return ok
}

func holdsDecode(t *testing.T, data []byte) bool {
	t.Helper()
	return holdsReading(t, data, note.Decode, note.Encode, noteAgain)
}

func holdsDecodeEntry(t *testing.T, data []byte) bool {
	t.Helper()
	return holdsReading(t, data, note.DecodeEntry, note.EncodeEntry, entryAgain)
}

// TestExamples: P3.3 and P3.4, the document's examples.
func TestExamples(t *testing.T) {
	seven := someOp()
	seven.Version = 7
	for _, c := range []struct {
		n    api.Note
		want string
	}{
		{api.Note{Kind: api.NoteAsk}, "15"},
		{api.Note{Kind: api.NoteOpen, Session: 5}, "01 05"},
		{callOf(someOp()), "02 01 02 01 02 02 2f 61 01 78 00 00"},
		{callOf(seven), "02 01 02 01 02 02 2f 61 01 78 01 07 00"},
		{api.Note{Kind: api.NoteTell, View: api.View{Num: 3, Primary: 2, Backup: 1}}, "16 03 02 01"},
		{withWatches(api.NoteUnwatch, api.Watch{Id: 3}), "07 01 02 01 03 00 00 00"},
	} {
		if data := encoded(t, c.n); !bytes.Equal(data, unhex(t, c.want)) {
			t.Errorf("P3.3: %.300v is encoded as % x, want %s", c.n, data, c.want)
		}
	}
	for _, n := range []api.Note{{Kind: api.NoteOpen}, {Kind: api.NoteAsk, Session: 5}} {
		if data, code := note.Encode(n); data != nil || code != api.ErrNote {
			t.Errorf("P3.3: Encode(%v) = % x, %d", n, data, code)
		}
	}
	for _, text := range []string{"01 05 00", "01", "", "63"} {
		if n, code := note.Decode(unhex(t, text)); code != api.ErrNote || !same(n, api.Note{}) {
			t.Errorf("P3.4: Decode(%s) = %v, %d", text, n, code)
		}
	}
}

// TestKindBytes: P3.3, one note of every kind, by the tables of the document.
func TestKindBytes(t *testing.T) {
	want := []string{
		"01 05",
		"02 01 02 01 02 02 2f61 01 78 00 00",
		"03 05",
		"04 ac02 01",
		"05 01 02 09 01 03 02 2f61 03 04",
		"06 01 02 01 03 02 2f61 03 04",
		"07 01 02 01 03 00 00 00",
		"08 01 02 8001",
		"09 07 01 3c",
		"0a 07 01 02 04 00 00 01 02 2f61 01 78 01 02 03 05 01 01 6b",
		"0b 07 01",
		"0c 07 01 02 05 51",
		"0d 07 01 02 05 00 01 03 09 02 2f61 02 01 02 2f61 01 78 02",
		"0d 07 01 02 05 2e 01 03 00 00 00 00",
		"0e 07 01 02 01 03 00 00 00 01 09 08 00 01 03 02 2f61 01 64 06 01 03",
		"0e 07 01 02 00 01 09 03 01 01 03 09 02 2f61 02 01 02 2f61 01 78 02",
		"0f 03 02 01",
		"10 02 03 01",
		"11 02 03 01 01 04 02 01 05 06 01 02 02 2f61 01 78 00 00 02",
		"12 02 03",
		"13 02 03 01 02 7a7a",
		"14 02",
		"15",
		"16 03 02 01",
		"17 02",
		"18 07 01 02 01 03 00 00 00",
	}
	notes := plain()
	if len(notes) != len(want) {
		t.Fatalf("%d notes, %d texts", len(notes), len(want))
	}
	for i, n := range notes {
		if data := encoded(t, n); !bytes.Equal(data, unhex(t, want[i])) {
			t.Errorf("P3.3: %.300v is encoded as % x, want %s", n, data, want[i])
		}
		if got, code := note.Decode(unhex(t, want[i])); code != api.OK || !same(got, n) {
			t.Errorf("P3.4: Decode(%s) = %.300v, %d", want[i], got, code)
		}
	}
}

// TestThereAndBack: P3.3, P3.4 and P3.8, all samples.
func TestThereAndBack(t *testing.T) {
	for _, n := range samples() {
		data := encoded(t, n)
		if want := bytesAgain(n); !bytes.Equal(data, want) {
			t.Errorf("P3.3: %.300v is encoded as %.100x, want %.100x", n, data, want)
		}
		got, code := note.Decode(data)
		if code != api.OK || !same(got, n) {
			t.Errorf("P3.8: %.300v came back as %.300v, %d", n, got, code)
		}
	}
}

// TestSameBytesSameNote: P3.8 and P3.9, no two samples have the same bytes, nor one the beginning of another's.
func TestSameBytesSameNote(t *testing.T) {
	all := samples()
	for i, a := range all {
		for j, b := range all {
			if i != j && !same(a, b) && bytes.HasPrefix(encoded(t, a), encoded(t, b)) {
				t.Errorf("P3.9: %.300v begins with %.300v", a, b)
			}
		}
	}
}

// TestCutShort: P3.4 and P3.9, a note cut short anywhere, or with a byte behind, is none.
func TestCutShort(t *testing.T) {
	for _, n := range slices.Concat(plain(), varied()) {
		data := encoded(t, n)
		for k := range data {
			if n, code := note.Decode(data[:k]); code != api.ErrNote || !same(n, api.Note{}) {
				t.Errorf("P3.9: Decode(%x) = %.300v, %d", data[:k], n, code)
			}
		}
		for b := range 256 {
			if n, code := note.Decode(append(bytes.Clone(data), byte(b))); code != api.ErrNote || !same(n, api.Note{}) {
				t.Errorf("P3.4: Decode(%x %02x) = %.300v, %d", data, b, n, code)
			}
		}
	}
	for _, n := range greatest() {
		data := encoded(t, n)
		for k := 0; k < len(data); k += 1 + len(data)/50 {
			if got, code := note.Decode(data[:k]); code != api.ErrNote || !same(got, api.Note{}) {
				t.Errorf("P3.9: the first %d of %d bytes of kind %d: %.300v, %d", k, len(data), n.Kind, got, code)
			}
		}
		if _, code := note.Decode(append(data, 0)); code != api.ErrNote {
			t.Errorf("P3.4: kind %d with a byte behind: %d", n.Kind, code)
		}
	}
}

// TestTurnedBytes: P3.4, every byte of a note turned into every other one.
func TestTurnedBytes(t *testing.T) {
	for _, n := range slices.Concat(plain(), varied()) {
		data := encoded(t, n)
		for i, old := range data {
			for b := range 256 {
				data[i] = byte(b)
				holdsDecode(t, data)
			}
			data[i] = old
		}
	}
}

// TestPatchedBytes: P3.4, bytes put in, taken out and doubled.
func TestPatchedBytes(t *testing.T) {
	for _, n := range slices.Concat(plain(), varied()) {
		data := encoded(t, n)
		for i := range data {
			holdsDecode(t, slices.Concat(data[:i], data[i+1:]))
			holdsDecode(t, slices.Concat(data[:i+1], data[i:]))
			for _, b := range []byte{0, 1, 2, 0x7f, 0x80, 0xff} {
				holdsDecode(t, slices.Concat(data[:i], []byte{b}, data[i:]))
				holdsDecode(t, slices.Concat(data[:i], []byte{data[i] | 0x80, b}, data[i+1:]))
			}
		}
	}
}

// TestShortBytes: P3.4 and P3.5, all bytes up to two, and up to four of few values.
func TestShortBytes(t *testing.T) {
	found := 0
	var look func(data, values []byte, deep int)
	look = func(data, values []byte, deep int) {
		if holdsDecode(t, data) {
			found++
		}
		holdsDecodeEntry(t, data)
		if deep == 0 {
			return
		}
		for _, b := range values {
			look(append(data, b), values, deep-1)
		}
	}
	look(make([]byte, 0, 8), times(256, func(i int) byte { return byte(i) }), 2)
	if found != 1+4*127 {
		t.Errorf("P3.4: %d notes have at most two bytes, want 1 of NoteAsk and 127 of each of NoteOpen, NoteClose, NoteProbe and NoteSettled", found)
	}
	look(make([]byte, 0, 8), []byte{0, 1, 2, 4, 0x10, 0x16, 0x80}, 5)
}

// TestChanceBytes: P3.4 and P3.5, bytes by chance, most of them low, behind each kind.
func TestChanceBytes(t *testing.T) {
	chance := rand.New(rand.NewSource(4))
	notes, entries := 0, 0
	for range 60000 {
		data := make([]byte, chance.Intn(24))
		for i := range data {
			data[i] = byte(chance.Intn([]int{3, 5, 48, 256}[chance.Intn(4)]))
		}
		if holdsDecodeEntry(t, data) {
			entries++
		}
		if holdsDecode(t, slices.Concat([]byte{byte(1 + chance.Intn(24))}, data)) {
			notes++
		}
	}
	if notes < 1000 || entries < 20 {
		t.Errorf("only %d notes and %d entries by chance", notes, entries)
	}
}

// TestWrongBytes: P3.4, numbers that are not in their shortest form, truths that are none, counts that nothing follows.
func TestWrongBytes(t *testing.T) {
	for what, text := range map[string]string{
		"a kind not in its shortest form":    "95 00",
		"a kind of five bytes":               "ff ff ff ff 07",
		"a kind above MaxNumber":             "ff ff ff ff 0f",
		"a session 0":                        "01 00",
		"a session not in its shortest form": "01 85 00",
		"a session above MaxNumber":          "01 80 80 80 80 08",
		"a version that is 2":                "02 01 02 01 02 02 2f61 01 78 02 07 00",
		"a version 0 of two bytes":           "02 01 02 01 02 02 2f61 01 78 80 00 00",
		"a marker that is 2":                 "0e 07 01 02 00 01 09 03 02 01 03 09 02 2f61 02 00",
		"five ops":                           "02 01 02 05 01 00 00 00 00 01 00 00 00 00 01 00 00 00 00 01 00 00 00 00 01 00 00 00 00",
		"a count of many":                    "02 01 02 ff ff ff ff 07",
		"a text of many":                     "02 01 02 01 02 ff ff ff ff 07",
		"a text longer than the bytes":       "13 02 03 01 03 7a7a",
		"a length not in its shortest form":  "13 02 03 01 82 00 7a7a",
		"no items":                           "0e 07 01 02 00 00",
		"an event without changes":           "0e 07 01 02 00 01 09 08 00 00",
		"a marker without parts":             "0e 07 01 02 00 01 09 08 01 00",
		"a watch that is only named":         "06 01 02 01 03 00 00 00",
		"an unwatch that is more":            "07 01 02 01 03 01 2f 01 00",
		"a refusal with a shot":              "0d 07 01 02 05 2e 01 03 00 01 2f 01 00",
		"a shot that is none":                "0d 07 01 02 05 00 01 03 00 00 00 00",
	} {
		if n, code := note.Decode(unhex(t, text)); code != api.ErrNote || !same(n, api.Note{}) {
			t.Errorf("P3.4: %s: Decode(%s) = %.300v, %d", what, text, n, code)
		}
	}
}

// TestLongBytes: P3.4 and P3.5, what is longer than a frame is not looked at.
func TestLongBytes(t *testing.T) {
	ask := append([]byte{api.NoteAsk}, make([]byte, api.MaxFrame)...)
	for _, c := range []struct {
		length int
		want   api.Errno
	}{{api.MaxFrame, api.ErrNote}, {api.MaxFrame + 1, api.ErrLong}, {1, api.OK}} {
		if n, code := note.Decode(ask[:c.length]); code != c.want || code != api.OK && !same(n, api.Note{}) {
			t.Errorf("P3.4: Decode of %d bytes: %.300v, %d, want %d", c.length, n, code, c.want)
		}
	}
	open := append([]byte{1, 1, 2, 5, 0, 0}, make([]byte, api.MaxFrame)...)
	for _, c := range []struct {
		length int
		want   api.Errno
	}{{api.MaxFrame, api.ErrNote}, {api.MaxFrame + 1, api.ErrLong}, {6, api.OK}} {
		if e, code := note.DecodeEntry(open[:c.length]); code != c.want || code != api.OK && !same(e, api.Entry{}) {
			t.Errorf("P3.5: DecodeEntry of %d bytes: %.300v, %d, want %d", c.length, e, code, c.want)
		}
	}
}

// TestGreatLists: W1, bytes of a whole frame that say one list, of every kind of element.
func TestGreatLists(t *testing.T) {
	for what, head := range map[string][]byte{
		"ops":     {2, 1, 2},
		"watches": {5, 1, 2, 9},
		"results": {10, 7, 1, 2, 4, 0, 0},
		"kids":    {10, 7, 1, 2, 4, 0, 0, 1, 0, 0, 1, 2, 3, 5},
		"parts":   {13, 7, 1, 2, 5, 0},
		"items":   {14, 7, 1, 2, 0},
		"tags":    {14, 7, 1, 2, 0, 1, 9, 8, 0, 1, 3, 1, '/', 0, 0},
		"entries": {17, 2, 3, 1},
	} {
		for _, fill := range []byte{0, 1} {
			for _, count := range [][]byte{{0xff, 0xff, 0xff, 0xff, 0x07}, {0x80, 0x80, 0x02}} {
				data := slices.Concat(head, count, bytes.Repeat([]byte{fill}, api.MaxFrame-len(head)-len(count)))
				if n, code := note.Decode(data); code != api.ErrNote || !same(n, api.Note{}) {
					t.Errorf("P3.4: a frame of %s: %d", what, code)
				}
			}
		}
	}
}

// TestEntries: P3.5, the document's examples, and entries of every kind there and back, cut short, turned and with more behind.
func TestEntries(t *testing.T) {
	open := api.Entry{Stamp: 1, View: 1, Kind: api.EntryOpen, Session: 5}
	if data, code := note.EncodeEntry(open); code != api.OK || !bytes.Equal(data, []byte{1, 1, 2, 5, 0, 0}) {
		t.Errorf("P3.5: % x, %d", data, code)
	}
	open.Request = 1
	if data, code := note.EncodeEntry(open); code != api.ErrNote || data != nil {
		t.Errorf("P3.5: % x, %d", data, code)
	}
	for _, e := range append(someEntries(), longAppend().Entries[0]) {
		data, code := note.EncodeEntry(e)
		if code != api.OK {
			t.Fatalf("P3.5: EncodeEntry(%v) = %d", e, code)
		}
		if got, code := note.DecodeEntry(data); code != api.OK || !same(got, e) {
			t.Errorf("P3.5: %v came back as %v, %d", e, got, code)
		}
		holdsDecodeEntry(t, append(bytes.Clone(data), 0))
		for i, old := range data {
			if got, code := note.DecodeEntry(data[:i]); code != api.ErrNote || !same(got, api.Entry{}) {
				t.Errorf("P3.5: DecodeEntry(%.100x) = %v, %d", data[:i], got, code)
			}
			for b := 0; b < 256; b += 1 + len(data)/100 {
				data[i] = byte(b)
				holdsDecodeEntry(t, data)
			}
			data[i] = old
		}
	}
}

// TestEntryInNote: P3.5, an entry alone has the bytes that it has in a note.
func TestEntryInNote(t *testing.T) {
	data, _ := note.EncodeEntry(someRequest())
	if want := slices.Concat([]byte{17, 2, 3, 1, 1}, data, []byte{2}); !bytes.Equal(encoded(t, appendOf(someRequest())), want) {
		t.Errorf("P3.5: % x is not in % x", data, encoded(t, appendOf(someRequest())))
	}
}

// TestGreatest: P3.10, the greatest notes fit a frame, and are as small as the document says.
func TestGreatest(t *testing.T) {
	for _, n := range greatest() {
		data := encoded(t, n)
		if len(data) > api.MaxFrame-32 {
			t.Errorf("P3.10: kind %d takes %d bytes", n.Kind, len(data))
		}
		m, code := note.Message(101, 5, n)
		if code != api.OK {
			t.Errorf("P3.10: Message of kind %d = %d", n.Kind, code)
		}
		if got, code := note.Open(m); code != api.OK || !same(got, n) {
			t.Errorf("P3.10: Open of kind %d = %d", n.Kind, code)
		}
	}
	for _, c := range []struct {
		n     api.Note
		below int
	}{
		{deliverOf(longMarker(most)), 46000},
		{deliverOf(times(7, longEvent)...), 90000},
		{longAppend(), 36000},
	} {
		if data := encoded(t, c.n); len(data) >= c.below {
			t.Errorf("P3.10: kind %d takes %d bytes, not fewer than %d", c.n.Kind, len(data), c.below)
		}
	}
	if data := encoded(t, longFull()); len(data) != 1+15+3+api.MaxState {
		t.Errorf("P3.10: NoteFull takes %d bytes", len(data))
	}
}
