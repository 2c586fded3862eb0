package place

// What the words stand in: one row behind the other, in this order.
const (
	clock = iota
	seq
	stripes
	locks
	threads
	nodes
	flags
	conds
	data
	kinds
)

// row is the words of all things of a kind: each of the many has as many, and the first of them stands at from.
type row struct{ from, many, each int }

// rows is where the rows of a map stand that may be.
func rows(m Map) [kinds]row {
	list := [kinds]row{
		clock:   {many: 1, each: 1},
		seq:     {many: 1, each: 1},
		stripes: {many: m.Stripes, each: 1},
		locks:   {many: m.Locks, each: Count + 1},
		threads: {many: m.Threads, each: Epoch + 1},
		nodes:   {many: m.Threads * m.Locks, each: Link + 1},
		flags:   {many: m.Threads, each: 1},
		conds:   {many: m.Conds, each: Slot + 4},
		data:    {many: m.Data, each: 2},
	}
	for i := 1; i < kinds; i++ {
		ahead := list[i-1]
		list[i].from = ahead.from + ahead.many*ahead.each
	}
	return list
}

// spot is the place of a part of the i-th thing of a kind; -1, if there is none.
func spot(m Map, kind, i, part int) int {
	if !May(m) {
		return -1
	}
	r := rows(m)[kind]
	if !within(i, 0, r.many-1) || !within(part, 0, r.each-1) {
		return -1
	}
	return r.from + i*r.each + part
}

// find is whose word stands at a place that is one: of what kind, which of them, and which part of it.
func find(m Map, a int) (int, int, int) {
	list := rows(m)
	kind := clock
	for kind < data && a >= list[kind+1].from {
		kind++
	}
	behind := a - list[kind].from
	return kind, behind / list[kind].each, behind % list[kind].each
}
