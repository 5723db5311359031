package note

import (
	"slices"
	"strings"

	"herald/api"
)

// kindFields says which fields a kind of note has, in the order of their bytes.
var kindFields = [...]string{
	api.NoteOpen:      "Session",
	api.NoteCall:      "Session Request Ops",
	api.NoteClose:     "Session",
	api.NoteBeat:      "Session Conn",
	api.NoteResume:    "Session Conn Stamp Watches",
	api.NoteWatch:     "Session Conn Watches",
	api.NoteUnwatch:   "Session Conn Watches",
	api.NoteTook:      "Session Conn Stamp",
	api.NoteOpened:    "Num Session Code",
	api.NoteAnswer:    "Num Session Request Reply",
	api.NoteGone:      "Num Session",
	api.NoteResumed:   "Num Session Conn Stamp Code",
	api.NoteWatched:   "Num Session Conn Stamp Code Parts",
	api.NoteDeliver:   "Num Session Conn Watches Items",
	api.NoteElsewhere: "View",
	api.NoteJoin:      "Num Stamp Of",
	api.NoteAppend:    "Num Stamp Of Entries Commit",
	api.NoteAcked:     "Num Stamp",
	api.NoteFull:      "Num Stamp Of State",
	api.NoteProbe:     "Num",
	api.NoteAsk:       "",
	api.NoteTell:      "View",
	api.NoteSettled:   "Num",
	api.NoteUnwatched: "Num Session Conn Watches",
}

// field is what is done with one field of a note.
type field struct {
	name  string
	check func(n *api.Note)
	empty func(n *api.Note)
	write func(w *writer, n *api.Note)
	read  func(r *reader, n *api.Note)
}

// allFields has a row for every field that a kind may have; Num and View are two readings of one.
func allFields() []field {
	return []field{
		numberField("Num", 1, func(n *api.Note) *int { return &n.View.Num }),
		numberField("Session", 1, func(n *api.Note) *int { return &n.Session }),
		numberField("Conn", 1, func(n *api.Note) *int { return &n.Conn }),
		numberField("Request", 1, func(n *api.Note) *int { return &n.Request }),
		numberField("Stamp", 0, func(n *api.Note) *int { return &n.Stamp }),
		numberField("Of", 0, func(n *api.Note) *int { return &n.Of }),
		numberField("Commit", 0, func(n *api.Note) *int { return &n.Commit }),
		numberField("Code", 0, func(n *api.Note) *api.Errno { return &n.Code }),
		fieldOf("View", func(n *api.Note) *api.View { return &n.View }, checkView, writeView, readView),
		fieldOf("Reply", func(n *api.Note) *api.Reply { return &n.Reply }, checkReply, writeReply, readReply),
		fieldOf("State", func(n *api.Note) *string { return &n.State }, checkState, (*writer).text, (*reader).text),
		listField("Ops", func(n *api.Note) *[]api.Op { return &n.Ops }, checkOps, writeOp, readOp),
		listField("Entries", func(n *api.Note) *[]api.Entry { return &n.Entries }, checkEntries, writeEntry, readEntry),
		listField("Watches", func(n *api.Note) *[]api.Watch { return &n.Watches }, checkWatches, writeWatch, readWatch),
		listField("Parts", func(n *api.Note) *[]api.Part { return &n.Parts }, checkParts, writePart, readPart),
		listField("Items", func(n *api.Note) *[]api.Item { return &n.Items }, checkItems, writeItem, readItem),
	}
}

// fieldOf makes the row of a field; its check is given the whole note, as what may be there hangs on the kind or the code.
func fieldOf[T any](name string, at func(*api.Note) *T, check func(*api.Note), write func(*writer, T), read func(*reader) T) field {
	return field{
		name:  name,
		check: check,
		empty: func(n *api.Note) {
			var none T
			*at(n) = none
		},
		write: func(w *writer, n *api.Note) { write(w, *at(n)) },
		read:  func(r *reader, n *api.Note) { *at(n) = read(r) },
	}
}

func numberField[T ~int](name string, low int, at func(*api.Note) *T) field {
	check := func(n *api.Note) { mustNumber(int(*at(n)), low) }
	write := func(w *writer, v T) { w.number(int(v)) }
	read := func(r *reader) T { return T(r.number()) }
	return fieldOf(name, at, check, write, read)
}

func listField[T any](name string, at func(*api.Note) *[]T, check func(*api.Note), write func(*writer, T), read func(*reader) T) field {
	writeAll := func(w *writer, list []T) { writeList(w, list, write) }
	readAll := func(r *reader) []T { return readList(r, read) }
	return fieldOf(name, at, check, writeAll, readAll)
}

// fieldsOf is the rows of what a kind has, in the order of their bytes.
func fieldsOf(kind int) []field {
	must(1 <= kind && kind < len(kindFields))
	rows := allFields()
	var has []field
	for _, name := range strings.Fields(kindFields[kind]) {
		i := slices.IndexFunc(rows, func(f field) bool { return f.name == name })
		has = append(has, rows[i])
	}
	return has
}
