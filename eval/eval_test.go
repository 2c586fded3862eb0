package eval_test

import (
	"math"
	"math/big"
	"slices"
	"testing"

	"syncope/api"
	"syncope/eval"
)

type regs = [api.Regs]int64

// some is registers of which each is another.
var some = regs{7, -3, math.MaxInt64, 0}

// in is an instruction.
func in(op, a, b, c int, n int64) api.Instr { return api.Instr{Op: op, A: a, B: b, C: c, N: n} }

// ops is a program of these, with no fields.
func ops(list ...int) []api.Instr {
	var p []api.Instr
	for _, op := range list {
		p = append(p, api.Instr{Op: op})
	}
	return p
}

// wildOps is ops that are none.
func wildOps() []int {
	return []int{math.MinInt, -1 << 32, -23, -2, -1, 0, 23, 24, 64, 256 + api.OSet, 1<<32 + api.OIf, math.MaxInt}
}

// wild is what may stand in a field: all that is one for some field, and what is none for any.
func wild() []int {
	return []int{math.MinInt, -256, -2, -1, 0, 1, 2, 3, 4, 5, 256, 1 << 32, math.MaxInt}
}

func wildN() []int64 { return []int64{math.MinInt64, -1, 0, 1, 4, 1 << 40, math.MaxInt64} }

// 4.1

// fields is what an instruction has: of how many numbers each field may be one (1: it has it not), and whether N may be any.
type fields struct {
	a, b, c int
	any     bool
}

// has is of each op what it has, as the chapter and api's remarks say, one by one.
var has = map[int]fields{
	api.OSet:    {4, 1, 1, true},
	api.OAdd:    {4, 4, 4, false},
	api.OSub:    {4, 4, 4, false},
	api.OMul:    {4, 4, 4, false},
	api.OXor:    {4, 4, 4, false},
	api.OLess:   {4, 4, 4, false},
	api.OSame:   {4, 4, 4, false},
	api.OLoad:   {4, 4, 1, true},
	api.OStore:  {4, 4, 1, true},
	api.OTake:   {1, 4, 1, true},
	api.OGive:   {1, 4, 1, true},
	api.OLog:    {4, 1, 1, false},
	api.OEnter:  {4, 2, 1, false},
	api.OLeave:  {1, 1, 1, false},
	api.OWait:   {4, 1, 1, false},
	api.OSignal: {4, 1, 1, false},
	api.OCast:   {4, 1, 1, false},
	api.OIf:     {4, 1, 1, false},
	api.OElse:   {1, 1, 1, false},
	api.OEnd:    {1, 1, 1, false},
	api.OLoop:   {4, 1, 1, false},
	api.OBack:   {1, 1, 1, false},
}

func TestMay(t *testing.T) {
	if len(has) != 22 {
		t.Fatalf("%d ops", len(has))
	}
	for op := 1; op <= 22; op++ {
		f := has[op]
		for _, a := range wild() {
			for _, b := range wild() {
				for _, c := range wild() {
					for _, n := range wildN() {
						want := a >= 0 && a < f.a && b >= 0 && b < f.b && c >= 0 && c < f.c && (f.any || n == 0)
						if got := eval.May(in(op, a, b, c, n)); got != want {
							t.Errorf("May(%v) = %v", in(op, a, b, c, n), got)
						}
					}
				}
			}
		}
	}
}

func TestMayNotBeOfAnotherOp(t *testing.T) {
	for _, op := range wildOps() {
		for _, i := range []api.Instr{{Op: op}, in(op, 1, 0, 0, 0), in(op, 1, 1, 1, 0), in(op, 0, 0, 0, 1)} {
			if eval.May(i) {
				t.Errorf("May(%v) = true", i)
			}
		}
	}
}

// 4.2

func TestMates(t *testing.T) {
	const none = -1
	for _, c := range []struct {
		name string
		p    []api.Instr
		want []int
	}{
		{"nothing", nil, nil},
		{"an empty list", []api.Instr{}, nil},
		{"no block", ops(api.OSet, api.OLoad, api.OWait, api.OLog), []int{none, none, none, none}},
		{"if", ops(api.OIf, api.OEnd), []int{1, none}},
		{"if, else", ops(api.OIf, api.OElse, api.OEnd), []int{1, 2, none}},
		{"with something in them", ops(api.OSet, api.OIf, api.OSet, api.OElse, api.OSet, api.OEnd, api.OSet), []int{none, 3, none, 5, none, none, none}},
		{"loop", ops(api.OLoop, api.OSet, api.OBack), []int{2, none, 0}},
		{"section", ops(api.OSet, api.OEnter, api.OLeave), []int{none, 2, 1}},
		{"one behind the other", ops(api.OLoop, api.OBack, api.OLoop, api.OBack, api.OIf, api.OEnd), []int{1, 0, 3, 2, 5, none}},
		{"within each other", ops(api.OEnter, api.OLoop, api.OIf, api.OEnter, api.OLeave, api.OElse, api.OIf, api.OEnd, api.OEnd, api.OBack, api.OLeave), []int{10, 9, 5, 4, 3, 8, 7, none, none, 1, 0}},
		{"an else of the inner one, and of the outer one", ops(api.OIf, api.OIf, api.OElse, api.OEnd, api.OElse, api.OEnd), []int{4, 2, 3, none, 5, none}},
		{"ops that are none", ops(0, api.OIf, 99, -1, api.OEnd, 23), []int{none, 4, none, none, none, none}},
	} {
		got, bad := eval.Mates(c.p)
		if !slices.Equal(got, c.want) || bad != -1 {
			t.Errorf("%s: Mates = %v, %d", c.name, got, bad)
		}
	}
}

func TestMatesOfWhatDoesNotFit(t *testing.T) {
	for _, c := range []struct {
		name string
		p    []api.Instr
		bad  int
	}{
		{"an end alone", ops(api.OEnd), 0},
		{"an else alone", ops(api.OSet, api.OElse), 1},
		{"a back alone", ops(api.OSet, api.OSet, api.OBack), 2},
		{"a leave alone", ops(api.OLeave), 0},
		{"a leave twice", ops(api.OEnter, api.OLeave, api.OLeave), 2},
		{"a second else", ops(api.OIf, api.OElse, api.OElse, api.OEnd), 2},
		{"an else behind the end", ops(api.OIf, api.OEnd, api.OElse), 2},
		{"an else of a loop", ops(api.OIf, api.OLoop, api.OElse), 2},
		{"a section across a loop's end", ops(api.OLoop, api.OEnter, api.OBack, api.OLeave), 2},
		{"a back behind an else", ops(api.OLoop, api.OIf, api.OElse, api.OBack), 3},
		{"the first of several", ops(api.OIf, api.OBack, api.OLeave), 1},
		{"one that fits none ahead of one that is open", ops(api.OIf, api.OLoop, api.OEnd), 2},
		{"an if is open", ops(api.OSet, api.OIf), 1},
		{"an if is open, behind its else", ops(api.OSet, api.OIf, api.OElse, api.OSet), 1},
		{"an else's if is open, an if within it is not", ops(api.OIf, api.OElse, api.OIf, api.OElse, api.OEnd), 0},
		{"a loop is open", ops(api.OLoop, api.OSet), 0},
		{"a section is open", ops(api.OLoop, api.OBack, api.OEnter), 2},
		{"the last of several is open", ops(api.OIf, api.OLoop, api.OEnter), 2},
		{"the last is there, the one ahead of it is open", ops(api.OIf, api.OLoop, api.OEnter, api.OLeave), 1},
	} {
		if got, bad := eval.Mates(c.p); len(got) != 0 || bad != c.bad {
			t.Errorf("%s: Mates = %v, %d, not %d", c.name, got, bad, c.bad)
		}
	}
}

// grammar reads a program as blocks within blocks, by going down into each.
type grammar struct {
	p     []api.Instr
	mates []int
	bad   int // -1, as long as all fits
}

// body goes on to one of the closers of the block that began at from (-1: of none); its place, or the length, once something is bad.
func (g *grammar) body(at, from int, closers ...int) int {
	for ; at < len(g.p); at++ {
		switch op := g.p[at].Op; {
		case slices.Contains(closers, op):
			return at
		case slices.Contains([]int{api.OElse, api.OEnd, api.OBack, api.OLeave}, op):
			g.bad = at
			return len(g.p)
		case op == api.OIf:
			at = g.branches(at)
		case op == api.OLoop:
			at = g.pair(at, api.OBack)
		case op == api.OEnter:
			at = g.pair(at, api.OLeave)
		}
	}
	if g.bad == -1 && from != -1 {
		g.bad = from
	}
	return len(g.p)
}

func (g *grammar) branches(at int) int {
	end := g.body(at+1, at, api.OElse, api.OEnd)
	g.mates[at] = end
	if g.bad == -1 && g.p[end].Op == api.OElse {
		middle := end
		end = g.body(middle+1, at, api.OEnd)
		g.mates[middle] = end
	}
	return end
}

func (g *grammar) pair(at, closer int) int {
	end := g.body(at+1, at, closer)
	g.mates[at] = end
	if g.bad == -1 {
		g.mates[end] = at
	}
	return end
}

// TestMatesOfAllShortPrograms holds them against the grammar, whatever block stands where.
func TestMatesOfAllShortPrograms(t *testing.T) {
	kinds := []int{api.OSet, api.OIf, api.OElse, api.OEnd, api.OLoop, api.OBack, api.OEnter, api.OLeave}
	many := 1
	for length := 0; length <= 6; length++ {
		for code := range many {
			p := make([]api.Instr, length)
			for at := range p {
				p[at].Op = kinds[code%len(kinds)]
				code /= len(kinds)
			}
			g := &grammar{p: p, mates: slices.Repeat([]int{-1}, length), bad: -1}
			g.body(0, -1)
			if g.bad != -1 {
				g.mates = nil
			}
			if got, bad := eval.Mates(p); !slices.Equal(got, g.mates) || bad != g.bad {
				t.Fatalf("Mates(%v) = %v, %d, not %v, %d", p, got, bad, g.mates, g.bad)
			}
		}
		many *= len(kinds)
	}
}

func TestMatesAsksOnlyTheOps(t *testing.T) {
	got, bad := eval.Mates([]api.Instr{in(api.OIf, 9, 9, 9, 9), in(api.OLoop, -1, 0, 0, 0), in(api.OBack, 5, 5, 5, 5), in(api.OEnd, 1, 1, 1, 1)})
	if !slices.Equal(got, []int{3, 2, 1, -1}) || bad != -1 {
		t.Errorf("Mates = %v, %d", got, bad)
	}
}

func TestMatesOfDeepBlocks(t *testing.T) {
	const deep = 300_000
	p := append(slices.Repeat(ops(api.OLoop), deep), slices.Repeat(ops(api.OBack), deep)...)
	got, bad := eval.Mates(p)
	if bad != -1 || len(got) != 2*deep {
		t.Fatalf("Mates of %d loops: %d, %d", deep, len(got), bad)
	}
	for at, mate := range got {
		if mate != 2*deep-1-at {
			t.Fatalf("%d belongs to %d", at, mate)
		}
	}
	if got, bad := eval.Mates(p[:2*deep-1]); len(got) != 0 || bad != 0 {
		t.Errorf("without the last back: %d, %d", len(got), bad)
	}
}

func TestMatesAreTheCallersOwn(t *testing.T) {
	p := ops(api.OIf, api.OElse, api.OEnd)
	first, _ := eval.Mates(p)
	first[0] = 9
	second, _ := eval.Mates(p)
	if !slices.Equal(second, []int{1, 2, -1}) || !slices.Equal(p, ops(api.OIf, api.OElse, api.OEnd)) {
		t.Errorf("Mates = %v of %v", second, p)
	}
}

// 4.3

func TestLocal(t *testing.T) {
	local := []int{api.OSet, api.OAdd, api.OSub, api.OMul, api.OXor, api.OLess, api.OSame, api.OIf, api.OElse, api.OEnd, api.OLoop, api.OBack}
	for op := 1; op <= 22; op++ {
		if got := eval.Local(op); got != slices.Contains(local, op) {
			t.Errorf("Local(%d) = %v", op, got)
		}
	}
	for _, op := range wildOps() {
		if eval.Local(op) {
			t.Errorf("Local(%d) = true", op)
		}
	}
}

// wrapped is a whole number as a register holds it.
func wrapped(n *big.Int) int64 {
	return int64(n.And(n, new(big.Int).SetUint64(math.MaxUint64)).Uint64())
}

// worked is what an op makes of two numbers, worked out among whole numbers, or bit by bit.
func worked(op int, b, c int64) int64 {
	x, y := big.NewInt(b), big.NewInt(c)
	holds := false
	switch op {
	case api.OAdd:
		return wrapped(x.Add(x, y))
	case api.OSub:
		return wrapped(x.Sub(x, y))
	case api.OMul:
		return wrapped(x.Mul(x, y))
	case api.OXor:
		return wrapped(x.Xor(x, y))
	case api.OLess:
		holds = x.Cmp(y) < 0
	case api.OSame:
		holds = x.Cmp(y) == 0
	}
	if holds {
		return 1
	}
	return 0
}

func TestNextOfSums(t *testing.T) {
	values := []int64{math.MinInt64, math.MinInt64 + 1, -1 << 32, -3, -1, 0, 1, 2, 7, 1<<32 + 1, math.MaxInt64 - 1, math.MaxInt64}
	for op := api.OAdd; op <= api.OSame; op++ {
		for _, x := range values {
			for _, y := range values {
				before := regs{5, x, -6, y}
				after := before
				after[0] = worked(op, x, y)
				if to, r, ok := eval.Next([]api.Instr{in(op, 0, 1, 3, 0)}, nil, 0, before); to != 1 || r != after || !ok {
					t.Errorf("op %d of %d, %d: %d, %v, %v, not %v", op, x, y, to, r, ok, after)
				}
			}
		}
	}
}

// TestNextOfSumsInEachRegister: a register may be what is worked out of, and what it goes into, at once.
func TestNextOfSumsInEachRegister(t *testing.T) {
	for op := api.OAdd; op <= api.OSame; op++ {
		for a := range api.Regs {
			for b := range api.Regs {
				for c := range api.Regs {
					after := some
					after[a] = worked(op, some[b], some[c])
					if to, r, ok := eval.Next([]api.Instr{{}, in(op, a, b, c, 0), {}}, []int{-1, -1, -1}, 1, some); to != 2 || r != after || !ok {
						t.Errorf("op %d %d %d %d: %d, %v, %v, not %v", op, a, b, c, to, r, ok, after)
					}
				}
			}
		}
	}
}

func TestNextOfSet(t *testing.T) {
	for a := range api.Regs {
		for _, n := range wildN() {
			after := some
			after[a] = n
			if to, r, ok := eval.Next([]api.Instr{in(api.OSet, a, 0, 0, n)}, nil, 0, some); to != 1 || r != after || !ok {
				t.Errorf("set %d %d: %d, %v, %v", a, n, to, r, ok)
			}
		}
	}
}

func TestNextOfBlocks(t *testing.T) {
	p := ops(api.OSet, api.OIf, api.OSet, api.OElse, api.OSet, api.OEnd, api.OLoop, api.OIf, api.OEnd, api.OBack)
	mates, _ := eval.Mates(p)
	for _, c := range []struct{ at, otherwise, nought int }{
		{1, 2, 4},  // if, with an else
		{3, 6, 6},  // else
		{5, 6, 6},  // end
		{6, 7, 10}, // loop: behind its back is the program's end
		{7, 8, 9},  // if, without an else
		{8, 9, 9},  // its end
		{9, 6, 6},  // back: to the loop itself, which asks again
		{0, 1, 1},  // no block
	} {
		for reg := range api.Regs {
			q := slices.Clone(p)
			for at := range q {
				if q[at].Op == api.OIf || q[at].Op == api.OLoop {
					q[at].A = reg
				}
			}
			for _, v := range []int64{0, 1, -1, 1 << 32, math.MinInt64, math.MaxInt64} {
				before, want := regs{4, 4, 4, 4}, c.otherwise
				if v == 0 {
					before, want = regs{4, 4, 4, 4}, c.nought
				}
				before[reg] = v
				after := before
				if c.at == 0 {
					after[0] = 0
				}
				if to, r, ok := eval.Next(q, mates, c.at, before); to != want || r != after || !ok {
					t.Errorf("at %d, %d in register %d: %d, %v, %v, not %d", c.at, v, reg, to, r, ok, want)
				}
			}
		}
	}
}

// TestNextGoesByTheMatesItIsGiven: they need not be those that Mates tells.
func TestNextGoesByTheMatesItIsGiven(t *testing.T) {
	for op, want := range map[int]int{api.OIf: 3, api.OElse: 3, api.OLoop: 3, api.OBack: 2} {
		for _, mates := range [][]int{{-1, 2}, {-1, 2, -1}, {9, 2, 9, 9, 9}} {
			if to, r, ok := eval.Next(ops(api.OSet, op, api.OSet), mates, 1, regs{}); to != want || r != (regs{}) || !ok {
				t.Errorf("op %d by %v: %d, %v, %v", op, mates, to, r, ok)
			}
		}
	}
}

// refused holds that Next does nothing.
func refused(t *testing.T, p []api.Instr, mates []int, at int, before regs) {
	t.Helper()
	if to, r, ok := eval.Next(p, mates, at, before); to != at || r != before || ok {
		t.Errorf("Next(%v, %v, %d, %v) = %d, %v, %v", p, mates, at, before, to, r, ok)
	}
}

func TestNextOfOthers(t *testing.T) {
	for op := range has {
		i := api.Instr{Op: op}
		if !eval.Local(op) {
			refused(t, []api.Instr{i}, []int{0}, 0, some)
			refused(t, []api.Instr{{Op: api.OIf}, i, {Op: api.OEnd}}, []int{2, 2, -1}, 1, some)
		}
	}
	for _, op := range wildOps() {
		refused(t, []api.Instr{{Op: op}}, []int{0}, 0, some)
	}
}

func TestNextOfWhatMayNotBe(t *testing.T) {
	for op := range has {
		for field := range 4 {
			for _, v := range []int{math.MinInt, -1, 4, 1 << 32, math.MaxInt} {
				i := in(op, 0, 0, 0, 0)
				switch field {
				case 0:
					i.A = v
				case 1:
					i.B = v
				case 2:
					i.C = v
				case 3:
					i.N = int64(v)
				}
				if !eval.May(i) {
					refused(t, []api.Instr{i}, []int{0}, 0, some)
				}
			}
		}
	}
	for _, i := range []api.Instr{in(api.OSet, 0, 1, 0, 5), in(api.OAdd, 0, 1, 2, 5), in(api.OIf, 0, 0, 1, 0), in(api.OElse, 1, 0, 0, 0), in(api.OEnd, 0, 0, 0, 1), in(api.OBack, 0, 1, 0, 0)} {
		refused(t, []api.Instr{i}, []int{0}, 0, some)
	}
}

func TestNextOfNoPlace(t *testing.T) {
	p := ops(api.OSet, api.OElse, api.OEnd)
	for _, at := range []int{math.MinInt, -1 << 32, -1, 3, 4, 1 << 32, math.MaxInt} {
		refused(t, p, []int{2, 2, 2, 2, 2, 2}, at, some)
	}
	refused(t, nil, nil, 0, some)
	refused(t, nil, []int{0}, 0, some)
}

func TestNextWithoutAMate(t *testing.T) {
	for _, op := range []int{api.OIf, api.OElse, api.OLoop, api.OBack} {
		p := ops(op, op)
		for _, before := range []regs{{}, {1, 1, 1, 1}, some} {
			for _, mates := range [][]int{nil, {}, {1}, {1, -1}, {1, 2}, {1, -2}, {1, math.MinInt}, {1, 1 << 32}, {1, math.MaxInt}, {1, 3, 0}} {
				refused(t, p, mates, 1, before)
			}
		}
	}
	for _, op := range []int{api.OSet, api.OAdd, api.OSame, api.OEnd} {
		for _, mates := range [][]int{nil, {-1}, {5}, {math.MinInt}} {
			if to, _, ok := eval.Next(ops(op), mates, 0, some); to != 1 || !ok {
				t.Errorf("op %d, which needs no mate, by %v: %d, %v", op, mates, to, ok)
			}
		}
	}
}

func TestNextLeavesWhatItIsHanded(t *testing.T) {
	p := []api.Instr{in(api.OLoop, 0, 0, 0, 0), in(api.OSub, 0, 0, 1, 0), in(api.OBack, 0, 0, 0, 0)}
	mates := []int{2, -1, 0}
	before := regs{3, 1}
	for at := range p {
		eval.Next(p, mates, at, before)
	}
	if p[1] != in(api.OSub, 0, 0, 1, 0) || !slices.Equal(mates, []int{2, -1, 0}) || before != (regs{3, 1}) {
		t.Errorf("%v, %v, %v", p, mates, before)
	}
}

func TestAddr(t *testing.T) {
	for b, v := range some {
		for _, n := range wildN() {
			want := wrapped(new(big.Int).Add(big.NewInt(v), big.NewInt(n)))
			for _, op := range []int{api.OLoad, api.OStore, api.OTake, api.OGive, api.OLog, 0, 99} {
				if got := eval.Addr(in(op, 9, b, 9, n), some); got != want {
					t.Errorf("Addr of op %d, register %d, %d = %d, not %d", op, b, n, got, want)
				}
			}
		}
	}
	for _, b := range []int{math.MinInt, -256, -1, 4, 5, 256, 1 << 32, math.MaxInt} {
		for _, n := range wildN() {
			if got := eval.Addr(in(api.OLoad, 0, b, 0, n), some); got != -1 {
				t.Errorf("Addr of register %d, %d = %d", b, n, got)
			}
		}
	}
}

// 4.4

// product is a program that multiplies register 0 by register 1, by adding; if the product is 42, register 3 is 1, else -1.
func product() []api.Instr {
	return []api.Instr{
		in(api.OSet, 2, 0, 0, 0),
		in(api.OLoop, 1, 0, 0, 0),
		in(api.OAdd, 2, 2, 0, 0),
		in(api.OSet, 3, 0, 0, 1),
		in(api.OSub, 1, 1, 3, 0),
		in(api.OBack, 0, 0, 0, 0),
		in(api.OSet, 3, 0, 0, 42),
		in(api.OSame, 3, 2, 3, 0),
		in(api.OIf, 3, 0, 0, 0),
		in(api.OElse, 0, 0, 0, 0),
		in(api.OSet, 3, 0, 0, -1),
		in(api.OEnd, 0, 0, 0, 0),
	}
}

// TestLocalIsOneThreadsAlone: threads that take turns in one program come each to what its own registers make of it.
func TestLocalIsOneThreadsAlone(t *testing.T) {
	p := product()
	mates, bad := eval.Mates(p)
	if bad != -1 {
		t.Fatalf("the program is bad at %d", bad)
	}
	registers := []regs{{6, 7}, {-3, 4}, {21, 2}, {9, 0}}
	at := make([]int, len(registers))
	for range 100 {
		for thread := range registers {
			if at[thread] == len(p) {
				continue
			}
			var ok bool
			if at[thread], registers[thread], ok = eval.Next(p, mates, at[thread], registers[thread]); !ok {
				t.Fatalf("thread %d stands at %d", thread, at[thread])
			}
		}
	}
	if want := []regs{{6, 0, 42, 1}, {-3, 0, -12, -1}, {21, 0, 42, 1}, {9, 0, 0, -1}}; !slices.Equal(registers, want) {
		t.Errorf("the threads come to %v, not %v", registers, want)
	}
}

// TestWhatNeedsASharedWordIsNotDone: none of these comes to anything here, whatever it says.
func TestWhatNeedsASharedWordIsNotDone(t *testing.T) {
	for _, i := range []api.Instr{
		in(api.OLoad, 1, 2, 0, 7), in(api.OStore, 1, 2, 0, 7), in(api.OTake, 0, 2, 0, 7), in(api.OGive, 0, 2, 0, 7), in(api.OLog, 1, 0, 0, 0),
		in(api.OEnter, 1, 1, 0, 0), in(api.OLeave, 0, 0, 0, 0), in(api.OWait, 1, 0, 0, 0), in(api.OSignal, 1, 0, 0, 0), in(api.OCast, 1, 0, 0, 0),
	} {
		if !eval.May(i) || eval.Local(i.Op) {
			t.Errorf("%v: May = %v, Local = %v", i, eval.May(i), eval.Local(i.Op))
		}
		refused(t, []api.Instr{i}, []int{0}, 0, some)
	}
}
