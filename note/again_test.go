package note_test

import (
	"bytes"
	"encoding/binary"
	"reflect"
	"strings"

	"herald/api"
	"herald/place"
)

// What stands here reckons the chapter's tables a second time, by reflection over package api: which notes may be, their bytes, and notes of bytes.

const most = api.MaxNumber

// kindHas is the chapter's table of kinds.
var kindHas = map[int]string{
	api.NoteOpen: "Session", api.NoteClose: "Session",
	api.NoteBeat:   "Session, Conn",
	api.NoteCall:   "Session, Request, Ops",
	api.NoteResume: "Session, Conn, Stamp, Watches",
	api.NoteWatch:  "Session, Conn, Watches", api.NoteUnwatch: "Session, Conn, Watches",
	api.NoteTook:      "Session, Conn, Stamp",
	api.NoteOpened:    "Num, Session, Code",
	api.NoteAnswer:    "Num, Session, Request, Reply",
	api.NoteGone:      "Num, Session",
	api.NoteResumed:   "Num, Session, Conn, Stamp, Code",
	api.NoteWatched:   "Num, Session, Conn, Stamp, Code, Parts",
	api.NoteUnwatched: "Num, Session, Conn, Watches",
	api.NoteDeliver:   "Num, Session, Conn, Watches, Items",
	api.NoteElsewhere: "View", api.NoteTell: "View",
	api.NoteJoin:   "Num, Stamp, Of",
	api.NoteAppend: "Num, Stamp, Of, Entries, Commit",
	api.NoteAcked:  "Num, Stamp",
	api.NoteFull:   "Num, Stamp, Of, State",
	api.NoteProbe:  "Num", api.NoteSettled: "Num",
	api.NoteAsk: "",
}

// span is from where to where a number or a count may be.
type span struct{ low, high int }

func (s span) has(v int) bool { return s.low <= v && v <= s.high }

// numberSpans has the numbers that are not from 0 to MaxNumber.
var numberSpans = map[string]span{
	"Note.Session": {1, most}, "Note.Conn": {1, most}, "Note.Request": {1, most},
	"Op.Version":  {-1, most},
	"Entry.Stamp": {1, most}, "Entry.Session": {1, most}, "Entry.Kind": {1, 4},
	"Watch.Id": {1, most}, "Watch.Kind": {1, 3},
	"Part.Id": {1, most}, "Shot.Kind": {1, 3},
	"Change.Kind": {1, 3}, "Tagged.Tags": {1, most},
}

var countSpans = map[string]span{
	"Note.Ops": {0, 4}, "Entry.Ops": {0, 4}, "Note.Entries": {0, 16},
	"Reply.Results": {0, 4}, "Result.Kids": {0, 64},
	"Note.Parts": {1, 1}, "Shot.Nodes": {0, 64},
	"Note.Items": {1, 8}, "Item.Parts": {1, 4}, "Item.Changes": {1, 64}, "Tagged.Tags": {1, 4},
}

var watchSpans = map[int]span{
	api.NoteResume: {0, 4}, api.NoteWatch: {1, 1}, api.NoteUnwatch: {1, 1}, api.NoteUnwatched: {1, 1}, api.NoteDeliver: {0, 4},
}

// byteLimits has the texts of any bytes; all others are places or names.
var byteLimits = map[string]int{"Op.Place": 256, "Op.Data": 256, "Result.Data": 64, "Seen.Data": 64, "Change.Data": 64, "Note.State": 200000}

func isPlace(text string) bool {
	_, code := place.Parse(text)
	return code == api.OK
}

func isName(text string) bool {
	names, code := place.Parse("/" + text)
	return code == api.OK && len(names) == 1
}

func textMayBe(where, text string) bool {
	if limit, is := byteLimits[where]; is {
		return len(text) <= limit
	}
	if where == "Result.Kids" {
		return isName(text)
	}
	return where == "Result.Place" && text == "" || isPlace(text)
}

// isNothing tells whether all of a value is zero, or lists without an element.
func isNothing(v reflect.Value) bool {
	switch v.Kind() {
	case reflect.Slice:
		return v.Len() == 0
	case reflect.Struct:
		for i := range v.NumField() {
			if !isNothing(v.Field(i)) {
				return false
			}
		}
		return true
	}
	return v.IsZero()
}

func rising[T any](list []T, key func(T) int) bool {
	for i := range list {
		if i > 0 && key(list[i]) <= key(list[i-1]) {
			return false
		}
	}
	return true
}

// judge asks whether the parts of one note may be.
type judge struct{ n api.Note }

func (j judge) mayBe(where string, v reflect.Value) bool {
	switch v.Kind() {
	case reflect.Int:
		s, is := numberSpans[where]
		if !is {
			s = span{0, most}
		}
		return s.has(int(v.Int()))
	case reflect.String:
		return textMayBe(where, v.String())
	case reflect.Slice:
		return j.listMayBe(where, v)
	case reflect.Struct:
		return j.structMayBe(v)
	}
	return v.Kind() == reflect.Bool
}

func (j judge) listMayBe(where string, v reflect.Value) bool {
	s, is := countSpans[where]
	if !is {
		s = watchSpans[j.n.Kind]
	}
	if !s.has(v.Len()) {
		return false
	}
	for i := range v.Len() {
		if !j.mayBe(where, v.Index(i)) {
			return false
		}
	}
	return true
}

func (j judge) structMayBe(v reflect.Value) bool {
	for i := range v.NumField() {
		name := v.Type().Field(i).Name
		if j.mustBeNothing(v, name) {
			if !isNothing(v.Field(i)) {
				return false
			}
		} else if !j.mayBe(v.Type().Name()+"."+name, v.Field(i)) {
			return false
		}
	}
	if t, is := v.Interface().(api.Tagged); is {
		return rising(t.Tags, func(tag int) int { return tag })
	}
	return true
}

// mustBeNothing tells of the fields whose neighbours say that there is nothing.
func (j judge) mustBeNothing(v reflect.Value, name string) bool {
	switch x := v.Interface().(type) {
	case api.Watch:
		return name != "Id" && j.n.Kind != api.NoteResume && j.n.Kind != api.NoteWatch
	case api.Part:
		return name == "Shot" && j.n.Kind == api.NoteWatched && j.n.Code != api.OK
	case api.Item:
		return name == "Changes" && x.Marker || name == "Parts" && !x.Marker
	case api.Entry:
		return (name == "Request" || name == "Ops") && x.Kind != api.EntryRequest
	}
	return false
}

func entryMayBe(e api.Entry) bool {
	return judge{}.mayBe("Note.Entries", reflect.ValueOf(e)) && (e.Kind != api.EntryRequest || e.Request >= 1)
}

// mayBe is Check.
func mayBe(n api.Note) bool {
	has, is := kindHas[n.Kind]
	if !is {
		return false
	}
	names := strings.Split(has, ", ")
	v := reflect.ValueOf(n)
	for i := range v.NumField() {
		name := v.Type().Field(i).Name
		switch {
		case name == "Kind":
		case name == "View" && names[0] == "Num":
			if n.View.Num < 1 || n.View.Num > most || n.View.Primary != 0 || n.View.Backup != 0 {
				return false
			}
		case strings.Contains(", "+has+",", ", "+name+","):
			if !(judge{n}).mayBe("Note."+name, v.Field(i)) {
				return false
			}
		case !isNothing(v.Field(i)):
			return false
		}
	}
	return togetherMayBe(n)
}

func togetherMayBe(n api.Note) bool {
	for _, e := range n.Entries {
		if !entryMayBe(e) {
			return false
		}
	}
	for i, item := range n.Items {
		if i > 0 && item.Marker {
			return false
		}
	}
	return rising(n.Items, func(i api.Item) int { return i.Stamp }) &&
		(n.Kind != api.NoteDeliver || rising(n.Watches, func(w api.Watch) int { return w.Id }))
}

// appendAgain writes a value: the fields of package api's structs stand in the order of their bytes.
func appendAgain(to []byte, v reflect.Value) []byte {
	switch v.Kind() {
	case reflect.Int:
		return binary.AppendUvarint(to, uint64(v.Int()))
	case reflect.String:
		return append(binary.AppendUvarint(to, uint64(v.Len())), v.String()...)
	case reflect.Bool:
		if v.Bool() {
			return append(to, 1)
		}
		return append(to, 0)
	case reflect.Slice:
		to = binary.AppendUvarint(to, uint64(v.Len()))
		for i := range v.Len() {
			to = appendAgain(to, v.Index(i))
		}
		return to
	}
	for i := range v.NumField() {
		switch name := v.Type().Name() + "." + v.Type().Field(i).Name; {
		case name == "Op.Version" && v.Field(i).Int() == -1:
			to = append(to, 0)
			continue
		case name == "Op.Version":
			to = append(to, 1)
		case leftOut(name, v):
			continue
		}
		to = appendAgain(to, v.Field(i))
	}
	return to
}

func leftOut(name string, v reflect.Value) bool {
	item, is := v.Interface().(api.Item)
	return is && (name == "Item.Parts" && !item.Marker || name == "Item.Changes" && item.Marker)
}

func fieldNames(kind int) []string {
	if kindHas[kind] == "" {
		return nil
	}
	return strings.Split(kindHas[kind], ", ")
}

func fieldAt(n *api.Note, name string) reflect.Value {
	if name == "Num" {
		return reflect.ValueOf(n).Elem().FieldByName("View").FieldByName("Num")
	}
	return reflect.ValueOf(n).Elem().FieldByName(name)
}

// bytesAgain is Encode, of a note that may be.
func bytesAgain(n api.Note) []byte {
	b := binary.AppendUvarint(nil, uint64(n.Kind))
	for _, name := range fieldNames(n.Kind) {
		b = appendAgain(b, fieldAt(&n, name))
	}
	return b
}

// takeNumber reads a number in any form; that it was the shortest one shows when it is written again.
func takeNumber(data *[]byte) (int, bool) {
	v, k := binary.Uvarint(*data)
	if k <= 0 || v > most {
		return 0, false
	}
	*data = (*data)[k:]
	return int(v), true
}

func takeAgain(data *[]byte, v reflect.Value) bool {
	if v.Kind() == reflect.Struct {
		return takeStruct(data, v)
	}
	k, ok := takeNumber(data)
	if !ok {
		return false
	}
	switch v.Kind() {
	case reflect.Int:
		v.SetInt(int64(k))
	case reflect.Bool:
		v.SetBool(k == 1)
	case reflect.String:
		if k > len(*data) {
			return false
		}
		v.SetString(string((*data)[:k]))
		*data = (*data)[k:]
	case reflect.Slice:
		for range k {
			e := reflect.New(v.Type().Elem()).Elem()
			if !takeAgain(data, e) {
				return false
			}
			v.Set(reflect.Append(v, e))
		}
	}
	return true
}

func takeStruct(data *[]byte, v reflect.Value) bool {
	for i := range v.NumField() {
		name := v.Type().Name() + "." + v.Type().Field(i).Name
		if leftOut(name, v) {
			continue
		}
		if name == "Op.Version" {
			k, ok := takeNumber(data)
			if !ok {
				return false
			}
			if k == 0 {
				v.Field(i).SetInt(-1)
				continue
			}
		}
		if !takeAgain(data, v.Field(i)) {
			return false
		}
	}
	return true
}

// noteAgain is Decode of at most MaxFrame bytes.
func noteAgain(data []byte) (api.Note, bool) {
	rest := data
	kind, ok := takeNumber(&rest)
	n := api.Note{Kind: kind}
	for _, name := range fieldNames(kind) {
		ok = ok && takeAgain(&rest, fieldAt(&n, name))
	}
	if !ok || !mayBe(n) || !bytes.Equal(bytesAgain(n), data) {
		return api.Note{}, false
	}
	return n, true
}

// entryAgain is DecodeEntry of at most MaxFrame bytes.
func entryAgain(data []byte) (api.Entry, bool) {
	rest := data
	var e api.Entry
	v := reflect.ValueOf(&e).Elem()
	if !takeAgain(&rest, v) || !entryMayBe(e) || !bytes.Equal(appendAgain(nil, v), data) {
		return api.Entry{}, false
	}
	return e, true
}

// same tells whether two values are the same, a nil list and an empty one too.
func same(a, b any) bool {
	return sameValues(reflect.ValueOf(a), reflect.ValueOf(b))
}

func sameValues(a, b reflect.Value) bool {
	switch a.Kind() {
	case reflect.Struct:
		for i := range a.NumField() {
			if !sameValues(a.Field(i), b.Field(i)) {
				return false
			}
		}
		return true
	case reflect.Slice:
		if a.Len() != b.Len() {
			return false
		}
		for i := range a.Len() {
			if !sameValues(a.Index(i), b.Index(i)) {
				return false
			}
		}
		return true
	}
	return a.Equal(b)
}
