package check_test

import (
	"errors"
	"math"
	"math/big"
	"reflect"
	"slices"
	"testing"

	"syncope/api"
	"syncope/blame"
	"syncope/check"
	"syncope/eval"
	"syncope/place"
)

// ok is the code of what has no fault.
const ok = 0

// fine is a configuration that may be, with locks of all kinds (the last one for no word), and these programs.
func fine(progs ...[]api.Instr) api.Config {
	return api.Config{
		Engine: api.ETL2, Clock: api.GV4, Stripes: 3, Reads: 4, Writes: 5, Retry: 1, Fuel: 20, Most: 100,
		Init:  []int64{5, 6, 7, 8, 9, 10},
		Locks: []api.Lock{{Kind: api.KMcs, From: 0, Len: 2}, {Kind: api.KRw, From: 2, Len: 2}, {Kind: api.KRw, From: 4, Len: 2}, {Kind: api.KTicket, From: 6}},
		Conds: []int{0, 1, 2},
		Progs: progs,
	}
}

// copied is a configuration that shares nothing with c.
func copied(c api.Config) api.Config {
	c.Init, c.Locks, c.Conds, c.Progs = slices.Clone(c.Init), slices.Clone(c.Locks), slices.Clone(c.Conds), slices.Clone(c.Progs)
	for t, p := range c.Progs {
		c.Progs[t] = slices.Clone(p)
	}
	return c
}

// told holds that an error is a code's, at a place of a thread, and nothing else; or none, of code ok.
func told(t *testing.T, what any, err error, code, thread, at int) {
	t.Helper()
	if code == ok {
		if err != nil {
			t.Errorf("%v: %v", what, err)
		}
		return
	}
	var where *blame.At
	if !errors.As(err, &where) || *where != (blame.At{Thread: thread, Place: at, Err: blame.New(code)}) || err != error(where) {
		t.Errorf("%v: %v, not code %d at thread %d, place %d", what, err, code, thread, at)
	}
}

// 6.1

func TestRegion(t *testing.T) {
	c := api.Config{Locks: []api.Lock{{From: 3, Len: 2}, {From: 4, Len: 3}, {From: 0, Len: 1}, {From: 9, Len: 0}, {From: 8, Len: -1}, {From: -2, Len: 3}}}
	for d, want := range map[int]int{-3: -1, -2: 5, -1: 5, 0: 2, 1: -1, 2: -1, 3: 0, 4: 0, 5: 1, 6: 1, 7: -1, 8: -1, 9: -1, 10: -1} {
		if got := check.Region(c, d); got != want {
			t.Errorf("Region of %d = %d, not %d", d, got, want)
		}
	}
	if got := check.Region(api.Config{Init: []int64{1}}, 0); got != -1 {
		t.Errorf("Region without a lock = %d", got)
	}
	many := make([]api.Lock, 1000)
	many[999] = api.Lock{From: 5, Len: 1}
	if got := check.Region(api.Config{Locks: many}, 5); got != 999 {
		t.Errorf("Region of many locks = %d", got)
	}
}

// wild is numbers of all sizes.
func wild() []int {
	return []int{math.MinInt, math.MinInt + 1, -1 << 33, -3, -1, 0, 1, 2, 3, 4, 5, 16, 32, 33, 1 << 33, math.MaxInt - 1, math.MaxInt}
}

// TestRegionIsOfWholeNumbers: no sum wraps.
func TestRegionIsOfWholeNumbers(t *testing.T) {
	whole := func(n int) *big.Int { return big.NewInt(int64(n)) }
	for _, from := range wild() {
		for _, many := range wild() {
			c := api.Config{Locks: []api.Lock{{From: from, Len: many}}}
			behind := new(big.Int).Add(whole(from), whole(many))
			for _, d := range wild() {
				want := -1
				if whole(d).Cmp(whole(from)) >= 0 && whole(d).Cmp(behind) < 0 {
					want = 0
				}
				if got := check.Region(c, d); got != want {
					t.Errorf("Region of %d, of %d from %d on = %d", d, many, from, got)
				}
			}
		}
	}
}

func TestMap(t *testing.T) {
	c := api.Config{Stripes: -7, Init: make([]int64, 5), Locks: make([]api.Lock, 4), Conds: make([]int, 3), Progs: make([][]api.Instr, 2)}
	if got := check.Map(c); got != (place.Map{Stripes: -7, Locks: 4, Threads: 2, Conds: 3, Data: 5}) {
		t.Errorf("Map = %v", got)
	}
	if got := check.Map(api.Config{}); got != (place.Map{}) {
		t.Errorf("Map of nothing = %v", got)
	}
}

// amounts is each number that a configuration has, how it is set, and between what it may be.
func amounts() []amount {
	return []amount{
		{"Engine", 1, 2, func(c *api.Config, n int) { c.Engine = n }},
		{"Clock", 1, 2, func(c *api.Config, n int) { c.Clock = n }},
		{"Stripes", 1, 16, func(c *api.Config, n int) { c.Stripes = n }},
		{"Reads", 1, 32, func(c *api.Config, n int) { c.Reads = n }},
		{"Writes", 1, 32, func(c *api.Config, n int) { c.Writes = n }},
		{"Retry", 0, 8, func(c *api.Config, n int) { c.Retry = n }},
		{"Fuel", 0, 400, func(c *api.Config, n int) { c.Fuel = n }},
		{"Most", 0, 1 << 40, func(c *api.Config, n int) { c.Most = int64(n) }},
	}
}

type amount struct {
	name        string
	least, most int
	set         func(c *api.Config, n int)
}

// eachAmount holds Config of some numbers against what they may be.
func eachAmount(t *testing.T, list []amount, numbers []int) {
	t.Helper()
	for _, a := range list {
		for _, n := range append(numbers, a.least, a.least+1, a.most-1, a.most, a.most+1) {
			c := fine(nil)
			a.set(&c, n)
			code := ok
			if n < a.least || n > a.most {
				code = api.ErrArg
			}
			told(t, []any{a.name, n}, check.Config(c), code, -1, -1)
		}
	}
}

func TestConfigOfAmounts(t *testing.T) {
	eachAmount(t, amounts(), append(wild(), -400, 1<<32+1))
}

func TestConfigOfLists(t *testing.T) {
	eachAmount(t, []amount{
		{"Init", 0, 32, func(c *api.Config, n int) { c.Init, c.Locks, c.Conds = make([]int64, n), nil, nil }},
		{"Locks", 0, 4, func(c *api.Config, n int) { c.Locks, c.Conds = slices.Repeat(c.Locks[3:], n), nil }},
		{"Conds", 0, 4, func(c *api.Config, n int) { c.Conds = make([]int, n) }},
		{"Progs", 1, 4, func(c *api.Config, n int) { c.Progs = make([][]api.Instr, n) }},
	}, []int{0, 256, 1000})
	told(t, "nothing", check.Config(api.Config{}), api.ErrArg, -1, -1)
}

// TestConfigOfTwoLocks: all pairs, of all kinds, held against the words that each has, one by one.
func TestConfigOfTwoLocks(t *testing.T) {
	const words = 3
	var list []api.Lock
	for kind := -1; kind <= 4; kind++ {
		for from := -1; from <= words+1; from++ {
			for many := -1; many <= words+1; many++ {
				list = append(list, api.Lock{Kind: kind, From: from, Len: many})
			}
		}
	}
	c := fine(nil)
	c.Init, c.Conds = make([]int64, words), nil
	for _, l := range list {
		for _, k := range list {
			c.Locks = []api.Lock{l, k}
			had := map[int]int{}
			code, at := ok, -1
			for i, lock := range c.Locks {
				wrong := lock.Kind < 1 || lock.Kind > 3 || lock.From < 0 || lock.Len < 0 || lock.From+lock.Len > words
				for d := lock.From; d < lock.From+lock.Len; d++ {
					had[d]++
					wrong = wrong || had[d] > 1
				}
				if wrong && code == ok {
					code, at = api.ErrLock, i
				}
			}
			told(t, c.Locks, check.Config(c), code, -1, at)
		}
	}
}

func TestConfigOfLocks(t *testing.T) {
	lock := func(kind, from, many int) api.Lock { return api.Lock{Kind: kind, From: from, Len: many} }
	for _, x := range []struct {
		name  string
		locks []api.Lock
		at    int // -1: they may be
	}{
		{"none", nil, -1},
		{"all words", []api.Lock{lock(1, 0, 6)}, -1},
		{"no word, behind the last", []api.Lock{lock(1, 6, 0)}, -1},
		{"no word, within another's", []api.Lock{lock(1, 0, 6), lock(2, 3, 0), lock(3, 3, 0)}, -1},
		{"falling", []api.Lock{lock(3, 4, 2), lock(2, 2, 2), lock(1, 0, 2)}, -1},
		{"words of no lock", []api.Lock{lock(3, 1, 1), lock(2, 4, 1)}, -1},
		{"no word, behind those that are", []api.Lock{lock(1, 7, 0)}, 0},
		{"one word too many", []api.Lock{lock(1, 0, 7)}, 0},
		{"a sum that wraps", []api.Lock{lock(1, 0, 2), lock(1, 2, math.MaxInt)}, 1},
		{"a sum that wraps to 0", []api.Lock{lock(1, 1<<62, 3<<61), lock(1, 0, 0)}, 0},
		{"far behind", []api.Lock{lock(1, math.MaxInt, 1)}, 0},
		{"below 0 by far", []api.Lock{lock(1, math.MinInt, 1)}, 0},
		{"so many below 0", []api.Lock{lock(1, 3, math.MinInt)}, 0},
		{"less than nothing", []api.Lock{lock(1, 3, -1)}, 0},
		{"ahead of the first", []api.Lock{lock(1, -1, 0)}, 0},
		{"a kind of far off", []api.Lock{lock(1<<32+1, 0, 0)}, 0},
		{"the first word of one two ahead", []api.Lock{lock(1, 2, 2), lock(1, 4, 1), lock(1, 0, 3)}, 2},
		{"the last word of one two ahead", []api.Lock{lock(1, 2, 2), lock(1, 4, 1), lock(1, 3, 1)}, 2},
		{"within another's", []api.Lock{lock(1, 0, 6), lock(1, 3, 1)}, 1},
		{"around another's", []api.Lock{lock(1, 3, 1), lock(1, 0, 6)}, 1},
		{"the first one of two", []api.Lock{lock(1, 0, 0), lock(4, 0, 0), lock(1, 0, 0), lock(0, 0, 0)}, 1},
		{"a word of an earlier one ahead of a wrong kind", []api.Lock{lock(1, 0, 2), lock(1, 1, 2), lock(9, 0, 0)}, 1},
		{"a wrong kind ahead of a word of an earlier one", []api.Lock{lock(1, 0, 2), lock(9, 2, 2), lock(1, 0, 1)}, 1},
	} {
		c := fine(nil)
		c.Locks, c.Conds = x.locks, nil
		code := ok
		if x.at >= 0 {
			code = api.ErrLock
		}
		told(t, x.name, check.Config(c), code, -1, x.at)
	}
}

func TestConfigOfConds(t *testing.T) {
	for _, x := range []struct {
		conds    []int
		code, at int
	}{
		{nil, ok, 0},
		{[]int{0}, ok, 0},
		{[]int{2, 1, 0, 2}, ok, 0},
		{[]int{1, 1, 1, 1}, ok, 0},
		{[]int{-1}, api.ErrCond, 0},
		{[]int{4}, api.ErrCond, 0},
		{[]int{0, 1, 5}, api.ErrCond, 2},
		{[]int{0, 1, 2, math.MaxInt}, api.ErrCond, 3},
		{[]int{0, math.MinInt, 1}, api.ErrCond, 1},
		{[]int{3}, api.ErrLock, 0},
		{[]int{0, 1, 2, 3}, api.ErrLock, 3},
		{[]int{0, 3, 4}, api.ErrLock, 1},
		{[]int{0, 4, 3}, api.ErrCond, 1},
		{[]int{3, 3, 3, 3}, api.ErrLock, 0},
		{[]int{4, 4, 4, 4}, api.ErrCond, 0},
	} {
		c := fine(nil)
		c.Conds = x.conds
		told(t, x.conds, check.Config(c), x.code, -1, x.at)
	}
	c := fine(nil)
	c.Locks, c.Conds = nil, []int{0}
	told(t, "no lock at all", check.Config(c), api.ErrCond, -1, 0)
	c = fine(nil)
	c.Locks[0].Len = 1
	told(t, "a lock for one word", check.Config(c), ok, 0, 0)
}

func TestConfigOfProgs(t *testing.T) {
	good := ops(api.OEnter, api.OLeave)
	noBlock, noArg := ops(api.OLog, api.OLeave), ops(api.OEnter, api.OLeave, 23)
	told(t, "all good", check.Config(fine(good, nil, good, good)), ok, 0, 0)
	told(t, "the first one", check.Config(fine(noBlock, noArg)), api.ErrBlock, 0, 1)
	told(t, "the second one", check.Config(fine(good, noArg, noBlock)), api.ErrArg, 1, 2)
	told(t, "the last one", check.Config(fine(nil, good, nil, noBlock)), api.ErrBlock, 3, 1)
	told(t, "too large", check.Config(fine(nil, make([]api.Instr, api.MaxProg+1))), api.ErrLarge, 1, -1)
}

// TestConfigTellsTheFirst: with each fault that is mended the next one in the chapter's order is told.
func TestConfigTellsTheFirst(t *testing.T) {
	c := fine(ops(api.OBack), ops(0))
	c.Engine, c.Most = 3, -1
	c.Locks[0].Kind, c.Locks[2].From = 0, -1
	c.Conds = []int{9, 3}
	for _, x := range []struct {
		code, thread, at int
		mend             func()
	}{
		{api.ErrArg, -1, -1, func() { c.Engine = api.ENorec }},
		{api.ErrArg, -1, -1, func() { c.Most = 0 }},
		{api.ErrLock, -1, 0, func() { c.Locks[0].Kind = api.KTicket }},
		{api.ErrLock, -1, 2, func() { c.Locks[2].From = 4 }},
		{api.ErrCond, -1, 0, func() { c.Conds[0] = 1 }},
		{api.ErrLock, -1, 1, func() { c.Conds[1] = 2 }},
		{api.ErrBlock, 0, 0, func() { c.Progs[0][0].Op = api.OLeave }},
		{api.ErrBlock, 0, 0, func() { c.Progs[0][0].Op = api.OLog }},
		{api.ErrArg, 1, 0, func() { c.Progs[1] = nil }},
		{ok, 0, 0, func() {}},
	} {
		told(t, c, check.Config(c), x.code, x.thread, x.at)
		x.mend()
	}
}

// 6.2

// in is an instruction.
func in(op, a, b int) api.Instr { return api.Instr{Op: op, A: a, B: b} }

// ops is a program of these, with no fields.
func ops(list ...int) []api.Instr {
	var p []api.Instr
	for _, op := range list {
		p = append(p, api.Instr{Op: op})
	}
	return p
}

func TestProgOfNoThread(t *testing.T) {
	c := fine(ops(api.OLeave), nil)
	for _, thread := range []int{math.MinInt, -2, -1, 2, 3, 4, 1 << 32, math.MaxInt} {
		told(t, thread, check.Prog(c, thread), api.ErrArg, thread, -1)
		told(t, thread, check.Prog(api.Config{}, thread), api.ErrArg, thread, -1)
	}
	told(t, "thread 0", check.Prog(c, 0), api.ErrBlock, 0, 0)
	told(t, "thread 1", check.Prog(c, 1), ok, 0, 0)
	told(t, "no thread at all", check.Prog(api.Config{}, 0), api.ErrArg, 0, -1)
}

// TestProgOfManyThreads: how many there may be is not Prog's to ask.
func TestProgOfManyThreads(t *testing.T) {
	var c api.Config
	c.Progs = make([][]api.Instr, 100)
	c.Progs[99] = ops(api.OLog, api.OElse)
	told(t, "thread 98", check.Prog(c, 98), ok, 0, 0)
	told(t, "thread 99", check.Prog(c, 99), api.ErrBlock, 99, 1)
}

func TestProgOfManyInstrs(t *testing.T) {
	most := slices.Repeat(ops(api.OEnter, api.OLeave), api.MaxProg/2)
	told(t, "as many as may be", check.Prog(fine(nil, most), 1), ok, 0, 0)
	told(t, "one more", check.Prog(fine(nil, append(most, ops(api.OLog)...)), 1), api.ErrLarge, 1, -1)
	told(t, "one more, and other faults", check.Prog(fine(nil, append(ops(0, api.OLeave), most...)), 1), api.ErrLarge, 1, -1)
	told(t, "many more", check.Prog(fine(nil, make([]api.Instr, 1<<20)), 1), api.ErrLarge, 1, -1)
}

func TestProgOfWhatIsNoInstr(t *testing.T) {
	for _, wrong := range []api.Instr{{}, {Op: -1}, {Op: 23}, {Op: math.MaxInt}, {Op: api.OSet, A: 4}, {Op: api.OLog, A: -1}, {Op: api.OLeave, N: 1}, {Op: api.OEnter, A: 4}, {Op: api.OEnter, A: -1}, {Op: api.OEnter, A: 1, B: 2}, {Op: api.OWait, A: 4}, {Op: api.OCast, A: math.MinInt}, {Op: api.OTake, A: 1}} {
		for at := range 4 {
			p := ops(api.OEnter, api.OLoad, api.OLog, api.OLeave)
			p[at] = wrong
			told(t, p, check.Prog(fine(nil, p), 1), api.ErrArg, 1, at)
			behind := append(p, api.Instr{Op: 99})
			told(t, behind, check.Prog(fine(nil, behind), 1), api.ErrArg, 1, at)
			ahead := append(ops(api.OLeave, api.OTake, api.OWait), p...)
			told(t, ahead, check.Prog(fine(nil, ahead), 1), api.ErrArg, 1, at+3)
		}
	}
}

func TestProgOfBlocks(t *testing.T) {
	for _, x := range []struct {
		p  []api.Instr
		at int
	}{
		{ops(api.OLeave), 0},
		{ops(api.OEnter), 0},
		{ops(api.OEnd), 0},
		{ops(api.OLog, api.OElse), 1},
		{ops(api.OLog, api.OLog, api.OBack), 2},
		{ops(api.OEnter, api.OLoop, api.OLeave, api.OBack), 2},
		{ops(api.OIf, api.OElse, api.OElse, api.OEnd), 2},
		{ops(api.OLoop, api.OEnter, api.OIf), 2},
		{ops(api.OLoop, api.OEnter, api.OLeave), 0},
		{ops(api.OTake, api.OWait, api.OIf, api.OBack), 3}, // other faults are further ahead
		{ops(api.OEnter, api.OEnter, api.OLeave), 0},
	} {
		told(t, x.p, check.Prog(fine(nil, x.p), 1), api.ErrBlock, 1, x.at)
	}
}

// The locks of fine: 0 is for one at a time, 1 and 2 are for readers, too.
func enter(l int) api.Instr { return in(api.OEnter, l, 0) }
func read(l int) api.Instr  { return in(api.OEnter, l, 1) }

var (
	leave, loop, back       = in(api.OLeave, 0, 0), in(api.OLoop, 0, 0), in(api.OBack, 0, 0)
	doIf, doElse, end       = in(api.OIf, 0, 0), in(api.OElse, 0, 0), in(api.OEnd, 0, 0)
	load, store, take, give = in(api.OLoad, 0, 0), in(api.OStore, 0, 0), in(api.OTake, 0, 0), in(api.OGive, 0, 0)
)

func wait(c int) api.Instr   { return in(api.OWait, c, 0) }
func signal(c int) api.Instr { return in(api.OSignal, c, 0) }
func cast(c int) api.Instr   { return in(api.OCast, c, 0) }

// placed is a program, and the code that it is told, at which place.
type placed struct {
	name     string
	p        []api.Instr
	code, at int
}

// eachPlaced holds Prog, and Config, against what is to be told of thread 1.
func eachPlaced(t *testing.T, c api.Config, list []placed) {
	t.Helper()
	for _, x := range list {
		c.Progs = [][]api.Instr{nil, x.p, nil}
		told(t, x.name, check.Prog(c, 1), x.code, 1, x.at)
		told(t, x.name+", by Config", check.Config(c), x.code, 1, x.at)
	}
}

func TestEnter(t *testing.T) {
	c := fine()
	eachPlaced(t, c, []placed{
		{"each lock", []api.Instr{enter(0), leave, enter(1), leave, enter(2), leave, enter(3), leave}, ok, 0},
		{"each to read", []api.Instr{read(1), leave, read(2), leave}, ok, 0},
		{"a mutex to read", []api.Instr{read(0), leave}, api.ErrMode, 0},
		{"a ticket lock to read", []api.Instr{read(1), read(3), leave, leave}, api.ErrMode, 1},
		{"a mutex to read, that is not above, in a loop", []api.Instr{enter(1), loop, read(0), leave, back, leave}, api.ErrMode, 2},
		{"three", []api.Instr{enter(0), enter(1), enter(3), leave, leave, leave}, ok, 0},
		{"four", []api.Instr{enter(0), enter(1), enter(2), enter(3), leave, leave, leave, leave}, api.ErrBlock, 3},
		{"four, the last not above", []api.Instr{enter(0), enter(1), enter(2), enter(0), leave, leave, leave, leave}, api.ErrBlock, 3},
		{"four, the last in a loop", []api.Instr{enter(0), enter(1), enter(2), loop, enter(3), leave, back, leave, leave, leave}, api.ErrBlock, 4},
		{"four, three at once", []api.Instr{enter(0), enter(1), enter(2), leave, enter(3), leave, leave, leave}, ok, 0},
		{"four, one behind the other", []api.Instr{enter(3), leave, enter(2), leave, enter(1), leave, enter(0), leave}, ok, 0},
		{"the same again", []api.Instr{read(1), read(1), leave, leave}, api.ErrOrder, 1},
		{"a lower one", []api.Instr{enter(1), enter(0), leave, leave}, api.ErrOrder, 1},
		{"a lower one than one that is left", []api.Instr{enter(0), enter(2), leave, enter(1), leave, leave}, api.ErrOrder, 3},
		{"the one that is left", []api.Instr{enter(0), read(2), leave, enter(2), leave, leave}, api.ErrOrder, 3},
		{"a lower one than one of the other branch", []api.Instr{enter(0), doIf, enter(2), leave, doElse, enter(1), leave, end, leave}, api.ErrOrder, 5},
		{"a higher one than one of the other branch", []api.Instr{enter(0), doIf, enter(1), leave, doElse, enter(2), leave, end, leave}, ok, 0},
		{"a lower one than one of the section ahead", []api.Instr{enter(0), enter(2), leave, leave, enter(0), enter(1), leave, leave}, ok, 0},
		{"a section in a loop", []api.Instr{loop, enter(0), enter(1), leave, leave, back}, ok, 0},
		{"a second lock in a loop of the section", []api.Instr{enter(0), loop, enter(1), leave, back, leave}, api.ErrOrder, 2},
		{"in a loop around an if", []api.Instr{enter(0), loop, doIf, enter(1), leave, end, back, leave}, api.ErrOrder, 3},
		{"in the inner one of two loops", []api.Instr{loop, enter(0), loop, enter(1), leave, back, leave, back}, api.ErrOrder, 3},
		{"in a loop of the second lock", []api.Instr{enter(0), enter(1), loop, enter(2), leave, back, leave, leave}, api.ErrOrder, 3},
		{"a second lock behind a loop of the section", []api.Instr{enter(0), loop, back, enter(1), leave, leave}, ok, 0},
		{"a second lock ahead of a loop of the section", []api.Instr{enter(0), enter(1), leave, loop, back, leave}, ok, 0},
		{"a second lock in an if", []api.Instr{enter(0), doIf, enter(1), leave, end, leave}, ok, 0},
		{"a section behind a loop of the one ahead", []api.Instr{enter(0), loop, back, leave, enter(0), enter(1), leave, leave}, ok, 0},
	})
	c.Locks, c.Conds = c.Locks[:2], nil
	eachPlaced(t, c, []placed{
		{"no such lock", []api.Instr{enter(2), leave}, api.ErrLock, 0},
		{"no such lock, to read", []api.Instr{enter(0), read(3), leave, leave}, api.ErrLock, 1},
		{"no such lock, in a loop", []api.Instr{enter(1), loop, read(2), leave, back, leave}, api.ErrLock, 2},
		{"the last lock", []api.Instr{enter(1), leave}, ok, 0},
	})
	c.Locks = nil
	eachPlaced(t, c, []placed{{"no lock at all", []api.Instr{enter(0), leave}, api.ErrLock, 0}})
}

func TestStore(t *testing.T) {
	eachPlaced(t, fine(), []placed{
		{"outside", []api.Instr{store, load, enter(0), leave, store}, ok, 0},
		{"in a section", []api.Instr{enter(0), load, store, take, give, leave}, ok, 0},
		{"in one of a lock for readers", []api.Instr{enter(1), load, store, take, give, leave}, ok, 0},
		{"to read: a load", []api.Instr{read(1), load, leave}, ok, 0},
		{"to read: a store", []api.Instr{read(1), store, leave}, api.ErrMode, 1},
		{"to read: a take", []api.Instr{read(1), take, leave}, api.ErrMode, 1},
		{"to read: a give", []api.Instr{read(1), give, leave}, api.ErrMode, 1},
		{"to read both", []api.Instr{read(1), read(2), store, leave, leave}, api.ErrMode, 2},
		{"to read the first", []api.Instr{read(1), enter(2), store, take, leave, leave}, ok, 0},
		{"to read the second", []api.Instr{enter(1), read(2), store, give, leave, leave}, ok, 0},
		{"behind the one to write", []api.Instr{read(1), enter(2), leave, store, leave}, api.ErrMode, 3},
		{"ahead of the one to write", []api.Instr{read(1), take, enter(2), leave, leave}, api.ErrMode, 1},
		{"behind a section", []api.Instr{enter(0), leave, read(1), leave, store}, ok, 0},
		{"a take outside", []api.Instr{take}, api.ErrMode, 0},
		{"a give outside", []api.Instr{enter(0), take, leave, give}, api.ErrMode, 3},
		{"a give outside, in a branch", []api.Instr{doIf, enter(0), leave, doElse, give, end}, api.ErrMode, 4},
	})
}

func TestCalls(t *testing.T) {
	c := fine()
	eachPlaced(t, c, []placed{
		{"wait", []api.Instr{enter(0), wait(0), leave}, ok, 0},
		{"wait of each", []api.Instr{enter(1), wait(1), wait(1), leave, enter(2), loop, wait(2), back, leave}, ok, 0},
		{"wait outside", []api.Instr{wait(0)}, api.ErrLock, 0},
		{"wait behind", []api.Instr{enter(0), leave, wait(0)}, api.ErrLock, 2},
		{"wait in another's", []api.Instr{enter(0), wait(1), leave}, api.ErrLock, 1},
		{"wait in two", []api.Instr{enter(0), enter(1), wait(0), leave, leave}, api.ErrLock, 2},
		{"wait in two, of the second", []api.Instr{enter(0), read(1), wait(1), leave, leave}, api.ErrLock, 2},
		{"wait when the second is left", []api.Instr{enter(0), enter(1), leave, wait(0), leave}, ok, 0},
		{"wait ahead of the second", []api.Instr{enter(0), wait(0), enter(1), leave, leave}, ok, 0},
		{"wait to read", []api.Instr{read(1), wait(1), leave}, api.ErrMode, 1},
		{"wait to read another's", []api.Instr{read(1), wait(2), leave}, api.ErrLock, 1},
		{"no such condition, outside", []api.Instr{wait(3)}, api.ErrCond, 0},
		{"no such condition, to read", []api.Instr{read(1), wait(3), leave}, api.ErrCond, 1},
		{"signal and cast", []api.Instr{enter(0), signal(0), cast(0), leave}, ok, 0},
		{"signal and cast, in two, of each", []api.Instr{enter(0), enter(1), signal(0), cast(1), cast(0), signal(1), leave, leave}, ok, 0},
		{"signal and cast, in three, of the one between", []api.Instr{enter(0), enter(1), read(2), signal(1), cast(1), leave, leave, leave}, ok, 0},
		{"signal outside", []api.Instr{signal(0)}, api.ErrLock, 0},
		{"cast outside", []api.Instr{enter(1), leave, cast(1)}, api.ErrLock, 2},
		{"signal in another's", []api.Instr{enter(0), signal(1), leave}, api.ErrLock, 1},
		{"cast in others'", []api.Instr{enter(0), enter(1), cast(2), leave, leave}, api.ErrLock, 2},
		{"signal when its own is left", []api.Instr{enter(0), enter(1), leave, signal(1), leave}, api.ErrLock, 3},
		{"signal to read", []api.Instr{read(1), signal(1), leave}, api.ErrMode, 1},
		{"cast to read, within one to write", []api.Instr{enter(0), read(1), signal(0), cast(1), leave, leave}, api.ErrMode, 3},
		{"cast to write, within one to read", []api.Instr{read(1), enter(2), cast(2), leave, leave}, ok, 0},
		{"signal of no such condition, outside", []api.Instr{signal(3)}, api.ErrCond, 0},
		{"cast of no such condition", []api.Instr{enter(0), cast(3), leave}, api.ErrCond, 1},
	})
	c.Conds = nil
	eachPlaced(t, c, []placed{
		{"no condition at all", []api.Instr{enter(0), wait(0), leave}, api.ErrCond, 1},
		{"none to signal", []api.Instr{enter(0), signal(0), leave}, api.ErrCond, 1},
	})
}

// TestProgTellsTheFirst: with each fault that is mended the next one is told.
func TestProgTellsTheFirst(t *testing.T) {
	c := fine(nil, []api.Instr{take, read(0), read(1), store, in(99, 0, 0), cast(3), wait(0), leave, leave, leave, doElse})
	p := c.Progs[1]
	for _, x := range []struct {
		code, at int
		mend     func()
	}{
		{api.ErrArg, 4, func() { p[4] = read(1) }},
		{api.ErrBlock, 10, func() { p[10] = in(api.OLog, 0, 0) }},
		{api.ErrMode, 0, func() { p[0] = store }},
		{api.ErrMode, 1, func() { p[1] = read(1) }},
		{api.ErrOrder, 2, func() { p[2] = read(2) }},
		{api.ErrMode, 3, func() { p[3] = load }},
		{api.ErrOrder, 4, func() { p[4] = enter(3) }},
		{api.ErrCond, 5, func() { p[5] = cast(0) }},
		{api.ErrLock, 5, func() { p[5] = cast(1) }},
		{api.ErrMode, 5, func() { p[1] = enter(1) }},
		{api.ErrLock, 6, func() { p[6] = load }},
		{ok, 0, func() {}},
	} {
		told(t, p, check.Prog(c, 1), x.code, 1, x.at)
		x.mend()
	}
}

// TestProgOfAnyConfig: of the rest of a configuration that may not be, no more is asked than the program needs.
func TestProgOfAnyConfig(t *testing.T) {
	c := api.Config{Engine: -1, Stripes: math.MinInt, Fuel: math.MaxInt, Most: math.MinInt64, Progs: make([][]api.Instr, 9)}
	c.Locks = []api.Lock{{Kind: -5, From: math.MaxInt, Len: math.MaxInt}, {Kind: api.KRw, From: -1, Len: -1}, {Kind: math.MaxInt}, {}, {}, {}}
	c.Conds = []int{math.MinInt, math.MaxInt, 1, 3, -1, -1}
	for _, x := range []placed{
		{"nothing", nil, ok, 0},
		{"locks of kinds that are none", []api.Instr{enter(0), enter(1), enter(2), leave, leave, leave}, ok, 0},
		{"one of them to read", []api.Instr{read(2), leave}, api.ErrMode, 0},
		{"no words to read", []api.Instr{read(1), load, leave}, ok, 0},
		{"a condition below all locks", []api.Instr{enter(0), signal(0), leave}, api.ErrLock, 1},
		{"a condition above all locks", []api.Instr{enter(0), wait(1), leave}, api.ErrLock, 1},
		{"a condition of a lock that may not be", []api.Instr{enter(1), cast(2), wait(2), leave}, ok, 0},
		{"a condition of a lock of no words", []api.Instr{enter(3), wait(3), leave}, ok, 0},
	} {
		c.Progs[7] = x.p
		told(t, x.name, check.Prog(c, 7), x.code, 7, x.at)
	}
}

// block is one that is open, as the books below keep it.
type block struct{ op, lock, b int }

// expected is what Prog is to tell of a program whose blocks fit, by a book of the blocks that are open, kept from instruction to instruction.
func expected(c api.Config, p []api.Instr) (int, int) {
	var book []block
	highest := -1
	for at, i := range p {
		if code := asked(c, i, book, highest); code != ok {
			return code, at
		}
		switch i.Op {
		case api.OIf, api.OLoop:
			book = append(book, block{op: i.Op})
		case api.OEnter:
			book = append(book, block{i.Op, i.A, i.B})
			highest = max(highest, i.A)
		case api.OEnd, api.OBack, api.OLeave:
			book = book[:len(book)-1]
		}
		if !slices.ContainsFunc(book, func(b block) bool { return b.op == api.OEnter }) {
			highest = -1
		}
	}
	return ok, 0
}

// asked is the code of one instruction, out of the book.
func asked(c api.Config, i api.Instr, book []block, highest int) int {
	var held []block
	looped, toWrite := false, false
	for _, b := range book {
		if b.op == api.OEnter {
			held = append(held, b)
			toWrite = toWrite || b.b == 0
		}
		looped = looped || b.op == api.OLoop && len(held) > 0
	}
	inside := len(held) > 0
	is := func(ops ...int) bool { return slices.Contains(ops, i.Op) }
	own := slices.IndexFunc(held, func(b block) bool { return i.A < len(c.Conds) && b.lock == c.Conds[i.A] })
	for _, rule := range []struct {
		broken bool
		code   int
	}{
		{is(api.OEnter) && i.A >= len(c.Locks), api.ErrLock},
		{is(api.OEnter) && i.B == 1 && (i.A >= len(c.Locks) || c.Locks[i.A].Kind != api.KRw), api.ErrMode},
		{is(api.OEnter) && inside && len(held)+1 > 3, api.ErrBlock},
		{is(api.OEnter) && inside && looped, api.ErrOrder},
		{is(api.OEnter) && inside && i.A <= highest, api.ErrOrder},
		{is(api.OStore) && inside && !toWrite, api.ErrMode},
		{is(api.OTake, api.OGive) && !toWrite, api.ErrMode},
		{is(api.OWait, api.OSignal, api.OCast) && i.A >= len(c.Conds), api.ErrCond},
		{is(api.OWait) && (len(held) != 1 || own != 0), api.ErrLock},
		{is(api.OSignal, api.OCast) && own < 0, api.ErrLock},
		{is(api.OWait, api.OSignal, api.OCast) && own >= 0 && held[max(own, 0)].b == 1, api.ErrMode},
	} {
		if rule.broken {
			return rule.code
		}
	}
	return ok
}

// closed is a program whose open blocks are ended.
func closed(p []api.Instr) []api.Instr {
	p = slices.Clone(p)
	for {
		_, bad := eval.Mates(p)
		if bad < 0 {
			return p
		}
		p = append(p, map[int]api.Instr{api.OIf: end, api.OLoop: back, api.OEnter: leave}[p[bad].Op])
	}
}

// eachProgram goes through all programs of up to so many letters, with their blocks ended.
func eachProgram(letters []api.Instr, most int, do func(p []api.Instr)) {
	var more func(p []api.Instr, left int)
	more = func(p []api.Instr, left int) {
		do(closed(p))
		if left == 0 {
			return
		}
		for _, i := range letters {
			next := append(p, i)
			if _, bad := eval.Mates(next); bad != len(p) || i.Op == api.OIf || i.Op == api.OLoop || i.Op == api.OEnter {
				more(next, left-1)
			}
		}
	}
	more(nil, most)
}

// TestAllPrograms: all that can be told of a short program, held against the book; each refusal with its place.
func TestAllPrograms(t *testing.T) {
	c := fine(nil, nil, nil)
	c.Locks, c.Conds = c.Locks[:3], []int{0, 1}
	met := map[int]int{}
	hold := func(p []api.Instr) {
		code, at := expected(c, p)
		met[code]++
		c.Progs[2] = p
		told(t, p, check.Prog(c, 2), code, 2, at)
	}
	eachProgram([]api.Instr{enter(0), read(0), enter(1), read(1), read(2), enter(3), leave, doIf, doElse, end, loop, back, store, take, give, wait(0), wait(1), signal(1), cast(0), cast(2)}, 4, hold)
	c = fine(nil, nil, nil)
	eachProgram([]api.Instr{enter(0), enter(1), read(2), enter(3), leave, loop, back}, 6, hold)
	eachProgram([]api.Instr{enter(0), read(1), enter(2), leave, doIf, doElse, wait(0), signal(1), store}, 5, hold)
	for _, code := range []int{ok, api.ErrBlock, api.ErrLock, api.ErrMode, api.ErrOrder, api.ErrCond} {
		if met[code] < 10 {
			t.Errorf("only %d programs of code %d", met[code], code)
		}
	}
}

// 6.3

// TestToldAheadOfAnyStep: a fault is told wherever it stands, if a thread ever comes to it or not.
func TestToldAheadOfAnyStep(t *testing.T) {
	c := fine()
	c.Fuel, c.Most, c.Conds = 0, 0, nil
	eachPlaced(t, c, []placed{
		{"in a branch that is never taken", []api.Instr{doIf, read(0), leave, end}, api.ErrMode, 1},
		{"in the other branch", []api.Instr{in(api.OSet, 0, 0), doIf, doElse, take, end}, api.ErrMode, 3},
		{"in a loop that is never begun", []api.Instr{loop, wait(0), back}, api.ErrCond, 1},
		{"behind a loop without end", []api.Instr{{Op: api.OSet, N: 1}, loop, back, give}, api.ErrMode, 3},
		{"behind a word that nobody may touch", []api.Instr{{Op: api.OLoad, N: -1}, doElse}, api.ErrBlock, 1},
		{"an instruction that is never done", []api.Instr{doIf, in(0, 0, 0), end}, api.ErrArg, 1},
	})
}

// TestWhatIsWrongOnlyWhenItRuns is no fault of form: a thread meets it, if at all.
func TestWhatIsWrongOnlyWhenItRuns(t *testing.T) {
	eachPlaced(t, fine(), []placed{
		{"words that are none", []api.Instr{{Op: api.OLoad, N: -1}, {Op: api.OStore, N: math.MaxInt64}}, ok, 0},
		{"words of another lock", []api.Instr{enter(0), {Op: api.OStore, N: 5}, {Op: api.OTake, N: 99}, leave}, ok, 0},
		{"a loop without end", []api.Instr{{Op: api.OSet, N: 1}, loop, back}, ok, 0},
	})
}

// TestWhatMayBeHasWords: each configuration without a fault has a map that may be.
func TestWhatMayBeHasWords(t *testing.T) {
	for _, n := range wild() {
		for _, a := range amounts() {
			c := fine(nil)
			a.set(&c, n)
			if check.Config(c) == nil && place.Size(check.Map(c)) == 0 {
				t.Errorf("%s %d: no map", a.name, n)
			}
		}
	}
}

// TestNothingIsChanged: what is handed in stays, and so does what is told of it.
func TestNothingIsChanged(t *testing.T) {
	for _, c := range []api.Config{
		fine([]api.Instr{enter(0), wait(0), leave}, []api.Instr{loop, read(1), load, leave, back}),
		fine(nil, []api.Instr{enter(1), enter(0), leave, leave}),
		fine(ops(api.OLeave)),
	} {
		kept := copied(c)
		first := check.Config(c)
		for thread := range c.Progs {
			check.Prog(c, thread)
			check.Region(c, thread)
		}
		check.Map(c)
		if !reflect.DeepEqual(c, kept) {
			t.Errorf("%v is now %v", kept, c)
		}
		if second := check.Config(c); blame.Text(first) != blame.Text(second) {
			t.Errorf("%v, and then %v", first, second)
		}
	}
}

// TestEmptyListsAreNone: a nil list and an empty one are the same.
func TestEmptyListsAreNone(t *testing.T) {
	c := fine([]api.Instr{})
	c.Init, c.Locks, c.Conds = []int64{}, []api.Lock{}, []int{}
	none := fine(nil)
	none.Init, none.Locks, none.Conds = nil, nil, nil
	told(t, "empty", check.Config(c), ok, 0, 0)
	told(t, "nil", check.Config(none), ok, 0, 0)
	c.Progs = [][]api.Instr{}
	told(t, "no threads", check.Config(c), api.ErrArg, -1, -1)
}
