package recipe

// GiveUpLater is as if a watch of which the id is not known as yet had been given up: one at most comes about by calls.
func (m *Machine) GiveUpLater(place string, kind int) {
	c := m.job.shared()
	c.late = append(c.late, watch{place: place, kind: kind})
}
