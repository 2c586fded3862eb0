package check

import (
	"slices"

	"syncope/api"
)

// stand is what an instruction stands in.
type stand struct {
	open    []api.Instr // the OEnters around it; the first one begins the section
	highest int         // of the locks that are entered ahead of it in the section, even if they are left
	looped  bool        // an OLoop is open within the section
}

// around is what the instruction at a place stands in: that hangs on the blocks alone, not on the way that a thread takes through them.
func around(p []api.Instr, mates []int, at int) stand {
	var s stand
	for i, in := range p[:at] {
		isOpen := mates[i] > at
		if isOpen && in.Op == api.OEnter {
			s.open = append(s.open, in)
		}
		if len(s.open) == 0 {
			continue
		}
		switch in.Op {
		case api.OEnter:
			s.highest = max(s.highest, in.A)
		case api.OLoop:
			s.looped = s.looped || isOpen
		}
	}
	return s
}

// misplaced is the code of why an instruction can't be where it stands; 0 if it can.
func misplaced(c api.Config, in api.Instr, s stand) int {
	switch in.Op {
	case api.OEnter:
		return wrongEnter(c, in, s)
	case api.OTake, api.OGive:
		if len(s.open) == 0 {
			return api.ErrMode
		}
		fallthrough
	case api.OStore:
		return wrongStore(s)
	case api.OWait, api.OSignal, api.OCast:
		return wrongCall(c, in, s)
	}
	return 0
}

// wrongEnter is why a lock can't be entered.
func wrongEnter(c api.Config, in api.Instr, s stand) int {
	switch {
	case in.A >= len(c.Locks):
		return api.ErrLock
	case reads(in) && c.Locks[in.A].Kind != api.KRw:
		return api.ErrMode
	case len(s.open) == 0:
		return 0
	case len(s.open) >= api.MaxNest:
		return api.ErrBlock
	case s.looped || in.A <= s.highest:
		return api.ErrOrder
	}
	return 0
}

// wrongStore is why a word can't be written.
func wrongStore(s stand) int {
	if len(s.open) > 0 && !slices.ContainsFunc(s.open, writes) {
		return api.ErrMode
	}
	return 0
}

// wrongCall is why a condition can't be waited at, or called. As locks rise, its lock is open just once, if at all.
func wrongCall(c api.Config, in api.Instr, s stand) int {
	if in.A >= len(c.Conds) {
		return api.ErrCond
	}
	if in.Op == api.OWait && len(s.open) > 1 {
		return api.ErrLock
	}
	at := slices.IndexFunc(s.open, func(enter api.Instr) bool { return enter.A == c.Conds[in.A] })
	switch {
	case at < 0:
		return api.ErrLock
	case reads(s.open[at]):
		return api.ErrMode
	}
	return 0
}

// reads tells whether an OEnter is to read only.
func reads(enter api.Instr) bool { return enter.B == 1 }

// writes tells whether an OEnter is to write, too.
func writes(enter api.Instr) bool { return !reads(enter) }
