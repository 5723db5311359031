package journal

import "herald/api"

// story is what the records so far say, and how many they are.
type story struct {
	api.Saved
	records int
}

func (s *story) last() int { return s.Stamp + len(s.Entries) }

// viewAt is the view of the entry with a stamp from Stamp to the last.
func (s *story) viewAt(stamp int) int {
	if stamp == s.Stamp {
		return s.Of
	}
	return s.Entries[stamp-s.Stamp-1].View
}

// begin lays what a record has below the entries.
func (s *story) begin(r api.Record) {
	s.Stamp, s.Of, s.State = r.Stamp, r.Of, r.State
}

// agrees tells whether the parts of a Saved may stand beside each other. Whether each may be for itself shows when it is written.
func agrees(s api.Saved) bool {
	if s.Matched < 0 || s.Matched > s.View.Num {
		return false
	}
	last, view := s.Stamp, s.Of
	for _, e := range s.Entries {
		if e.Stamp != last+1 || e.View < view {
			return false
		}
		last, view = e.Stamp, e.View
	}
	return s.Stamp <= s.Commit && s.Commit <= last
}

// shortStory has the records that say just this.
func shortStory(s api.Saved) []api.Record {
	var records []api.Record
	if s.Stamp != 0 || s.Of != 0 || s.State != "" {
		records = append(records, api.Record{Kind: api.RecordSave, Stamp: s.Stamp, Of: s.Of, State: s.State})
	}
	records = append(records, viewStory(s.View, s.Matched)...)
	for _, e := range s.Entries {
		records = append(records, api.Record{Kind: api.RecordEntry, Entry: e})
	}
	if s.Commit > s.Stamp {
		records = append(records, api.Record{Kind: api.RecordCommit, Stamp: s.Commit})
	}
	return records
}

// viewStory has the records of views: what was matched is told ahead of a view that is above it, as only the present view can be matched.
func viewStory(view api.View, matched int) []api.Record {
	if view == (api.View{}) {
		return nil
	}
	if matched == 0 {
		return []api.Record{{Kind: api.RecordView, View: view}}
	}
	old := api.View{Num: matched, Primary: view.Primary, Backup: view.Backup}
	records := []api.Record{{Kind: api.RecordView, View: old}, {Kind: api.RecordMatched, View: api.View{Num: matched}}}
	if matched < view.Num {
		records = append(records, api.Record{Kind: api.RecordView, View: view})
	}
	return records
}
