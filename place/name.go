package place

import "strconv"

// Name is what the word at a place is called; "" of none.
func Name(m Map, a int) string {
	if !within(a, 0, Size(m)-1) {
		return ""
	}
	kind, i, part := find(m, a)
	name, end := kindName(kind, part), ""
	switch kind {
	case nodes:
		name += " " + strconv.Itoa(i/m.Locks)
		i %= m.Locks
		fallthrough
	case locks, threads, conds:
		end = " " + partName(kind, part)
		fallthrough
	case stripes, flags, data:
		name += " " + strconv.Itoa(i) + end
	}
	return name
}

// kindName is the word with which a name begins. A data word's owner has one of its own, though it stands in the same row.
func kindName(kind, part int) string {
	switch kind {
	case clock:
		return "clock"
	case seq:
		return "seq"
	case stripes:
		return "stripe"
	case locks:
		return "lock"
	case threads:
		return "thread"
	case nodes:
		return "node"
	case flags:
		return "flag"
	case conds:
		return "cond"
	}
	return [2]string{"data", "owner"}[part]
}

// partName is the word with which a name ends.
func partName(kind, part int) string {
	switch kind {
	case locks:
		return [...]string{Tail: "tail", Next: "next", Serving: "serving", Readers: "readers", Word: "word", Count: "count"}[part]
	case threads:
		return [...]string{Phase: "phase", Epoch: "epoch"}[part]
	case nodes:
		return [...]string{Gate: "gate", Link: "link"}[part]
	}
	return condPart(part)
}

// condPart is the word for a part of a condition: all behind its head and its end are slots.
func condPart(part int) string {
	switch part {
	case Head:
		return "head"
	case End:
		return "end"
	}
	return "slot " + strconv.Itoa(part-Slot)
}
