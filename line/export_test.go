package line

// Age puts the numbers to where a very long life would have brought them.
func (l *Line) Age(last int) { l.last = last }
