package check

import (
	"errors"

	"syncope/api"
	"syncope/blame"
	"syncope/place"
)

// first is the first fault of so many things, at the place of the one that has it.
func first(many, thread int, fault func(at int) error) error {
	for at := range many {
		if err := fault(at); err != nil {
			return placed(err, thread, at)
		}
	}
	return nil
}

// placed is a fault at a place, unless it was told with a nearer one already.
func placed(fault error, thread, at int) error {
	var nearer *blame.At
	if errors.As(fault, &nearer) {
		return fault
	}
	return blame.Put(fault, thread, at)
}

// wrongAmounts is the fault of a number that is none of its kind, or of too many things, or too few.
func wrongAmounts(c api.Config) error {
	if place.May(Map(c)) &&
		(c.Engine == api.ETL2 || c.Engine == api.ENorec) &&
		(c.Clock == api.GV1 || c.Clock == api.GV4) &&
		within(c.Reads, 1, api.MaxSet) &&
		within(c.Writes, 1, api.MaxSet) &&
		within(c.Retry, 0, api.MaxRetry) &&
		within(c.Fuel, 0, api.MaxFuel) &&
		0 <= c.Most && c.Most <= api.MaxClock {
		return nil
	}
	return blame.New(api.ErrArg)
}

// wrongLock is the fault of a lock, behind others that have none.
func wrongLock(c api.Config, i int) error {
	l, words := c.Locks[i], len(c.Init)
	fine := within(l.Kind, api.KMcs, api.KRw) && within(l.From, 0, words) && within(l.Len, 0, words-l.From)
	for d := l.From; fine && d < l.From+l.Len; d++ {
		fine = Region(c, d) == i
	}
	if fine {
		return nil
	}
	return blame.New(api.ErrLock)
}

// wrongCond is the fault of a condition: its lock must be one, and have words.
func wrongCond(c api.Config, i int) error {
	l := c.Conds[i]
	switch {
	case !within(l, 0, len(c.Locks)-1):
		return blame.New(api.ErrCond)
	case c.Locks[l].Len == 0:
		return blame.New(api.ErrLock)
	}
	return nil
}

// within tells whether n is from least to most.
func within(n, least, most int) bool { return least <= n && n <= most }
