package eval

import "syncope/api"

// block is one that is open: where it began, and which of its instructions has no mate yet (an OElse, once it is there, instead of its OIf).
type block struct{ from, last int }

// Mates is of each instruction the place that it belongs to (-1 of none), and -1; or nothing, and the place of one that fits no other.
func Mates(p []api.Instr) ([]int, int) {
	mates := make([]int, len(p))
	var open []block
	for at, in := range p {
		mates[at] = -1
		switch in.Op {
		case api.OIf, api.OLoop, api.OEnter:
			open = append(open, block{at, at})
		case api.OElse, api.OEnd, api.OBack, api.OLeave:
			top := len(open) - 1
			if top < 0 || !fits(in.Op, p[open[top].last].Op) {
				return nil, at
			}
			join(mates, in.Op, open[top].last, at)
			if in.Op == api.OElse {
				open[top].last = at
			} else {
				open = open[:top]
			}
		}
	}
	if len(open) > 0 {
		return nil, open[len(open)-1].from
	}
	return mates, -1
}

// fits tells whether an instruction can stand behind one that has no mate yet.
func fits(op, last int) bool {
	switch op {
	case api.OEnd:
		if last == api.OElse {
			return true
		}
		fallthrough
	case api.OElse:
		return last == api.OIf
	case api.OBack:
		return last == api.OLoop
	}
	return last == api.OEnter
}

// join makes the instruction at a place the mate of the last one; what a loop or a section ends with leads back as well.
func join(mates []int, op, last, at int) {
	switch op {
	case api.OBack, api.OLeave:
		mates[at] = last
		fallthrough
	case api.OElse, api.OEnd:
		mates[last] = at
	}
}
