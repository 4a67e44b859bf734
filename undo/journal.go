// Package undo is layer 10: what is taken back.
package undo

import (
	"slices"
)

// Step is a change that can be taken back.
type Step interface{ Back() }

// Journal is changes.
type Journal struct {
	steps []Step
}

// Mark is how many changes are noted.
func (j *Journal) Mark() int {
	if j == nil {
		return 0
	}
	return len(j.steps)
}

// Note notes changes. (Nil is none.)
func (j *Journal) Note(l ...Step) {
	if j == nil {
		return
	}
	for _, s := range l {
		if s != nil {
			j.steps = append(j.steps, s)
		}
	}
}

// Back takes changes back. They are forgotten ahead of it, so that it ends, and
// takes back each once, even if one of them uses the journal.
func (j *Journal) Back(mark int) int {
	gone := j.forget(mark)
	for _, s := range slices.Backward(gone) {
		takeBack(s)
	}
	return len(gone)
}

// Keep forgets all changes.
func (j *Journal) Keep() {
	j.forget(0)
}

// forget is the changes behind the first ones, that are noted no more.
func (j *Journal) forget(mark int) []Step {
	mark = max(mark, 0)
	if mark >= j.Mark() {
		return nil
	}
	gone := slices.Clone(j.steps[mark:])
	// The room stays, but holds none of what they hold.
	clear(j.steps[mark:])
	j.steps = j.steps[:mark]
	return gone
}

// takeBack lets no panic out of a change that came from elsewhere: those ahead of
// it are to be taken back, too.
func takeBack(s Step) {
	defer func() { recover() }()
	s.Back()
}
