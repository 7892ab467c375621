package trial

// Where a plain wait is.
const (
	atTaking = iota
	atRaising
	atLooking
	atFreeing
)

// PlainWait is a wait, told by its chapter's words.
type PlainWait struct {
	Worker int

	at     int
	period uint64
	passed int
}

// Takes says whether its next step takes the period's lock.
func (p *PlainWait) Takes() bool { return p.at == atTaking }

// Looks is at which worker's counter it looks by its next step, and whether it looks at one.
func (p *PlainWait) Looks() (worker int, looks bool) { return p.passed, p.at == atLooking }

// Ready says whether its next step can be taken.
func (p *PlainWait) Ready(s Seen) bool {
	switch p.at {
	case atTaking:
		return s.Holders[periodLock] == -1
	case atLooking:
		counter := s.Words[firstCounter+p.passed]
		return counter == 0 || counter >= p.period
	}
	return true
}

// Step is what its step has to come to, and whether it is done by it.
func (p *PlainWait) Step(before, _ Seen) (want Seen, done bool) {
	if !p.Ready(before) {
		return before, false
	}
	switch p.at {
	case atTaking:
		p.at = atRaising
		return before.Holder(periodLock, p.Worker), false
	case atRaising:
		p.period, p.at = before.Words[periodCell]+1, atLooking
		return before.Period(p.period), false
	case atLooking:
		p.passed++
		if p.passed == before.Workers {
			p.at = atFreeing
		}
		return before, false
	}
	return before.Holder(periodLock, -1), true
}
