package mem_test

import (
	"math"
	"slices"
	"testing"

	"syncope/api"
	"syncope/mem"
)

// told is what a memory tells of itself without a step.
type told struct {
	all   []int64
	steps int
	last  api.Access
}

func look(m *mem.Mem) told { return told{m.All(), m.Steps(), m.Last()} }

// same fails the test, unless m tells want, and its Len and Peek say so too.
func same(t *testing.T, name string, m *mem.Mem, want told) {
	t.Helper()
	got := look(m)
	if !slices.Equal(got.all, want.all) || got.steps != want.steps || got.last != want.last {
		t.Errorf("%s: it stands %v, not %v", name, got, want)
	}
	if m.Len() != len(want.all) {
		t.Errorf("%s: Len = %d, not %d", name, m.Len(), len(want.all))
	}
	for a, v := range want.all {
		if m.Peek(a) != v {
			t.Errorf("%s: Peek(%d) = %d, not %d", name, a, m.Peek(a), v)
		}
	}
}

// refused fails the test, unless all four accesses at a are refused by that code.
func refused(t *testing.T, m *mem.Mem, a, code int) {
	t.Helper()
	if v, e := m.Load(a); v != 0 || e != code {
		t.Errorf("Load(%d) = %d, %d", a, v, e)
	}
	if e := m.Store(a, 1); e != code {
		t.Errorf("Store(%d) = %d", a, e)
	}
	for _, old := range []int64{0, 7} {
		if v, done, e := m.Swap(a, old, 1); v != 0 || done || e != code {
			t.Errorf("Swap(%d, %d) = %d, %v, %d", a, old, v, done, e)
		}
	}
	if v, e := m.Add(a, 1); v != 0 || e != code {
		t.Errorf("Add(%d) = %d, %d", a, v, e)
	}
	if v := m.Peek(a); v != 0 {
		t.Errorf("Peek(%d) = %d", a, v)
	}
}

// 2.1

func TestNew(t *testing.T) {
	same(t, "no words", mem.New(), told{})
	same(t, "a nil row", mem.New([]int64(nil)...), told{})
	same(t, "an empty row", mem.New([]int64{}...), told{})
	same(t, "one", mem.New(0), told{all: []int64{0}})
	same(t, "the ends of int64", mem.New(math.MinInt64, -1, math.MaxInt64), told{all: []int64{math.MinInt64, -1, math.MaxInt64}})
}

func TestNewOfManyWords(t *testing.T) {
	words := make([]int64, api.MaxWords+1)
	for i := range words {
		words[i] = int64(i) - 9
	}
	if m := mem.New(words...); m != nil {
		t.Errorf("New of %d words has %d", len(words), m.Len())
	}
	if m := mem.New(append(words, words...)...); m != nil {
		t.Errorf("New of %d words has %d", 2*len(words), m.Len())
	}
	most := words[:api.MaxWords]
	m := mem.New(most...)
	same(t, "as many as may be", m, told{all: most})
	if v, e := m.Load(api.MaxWords - 1); v != api.MaxWords-10 || e != 0 {
		t.Errorf("Load of the last = %d, %d", v, e)
	}
}

func TestLoad(t *testing.T) {
	m := mem.New(7, 0, -3)
	for a, want := range []int64{7, 0, -3} {
		if v, e := m.Load(a); v != want || e != 0 {
			t.Errorf("Load(%d) = %d, %d", a, v, e)
		}
		same(t, "a Load", m, told{[]int64{7, 0, -3}, a + 1, api.Access{Kind: api.ALoad, At: a, Val: want, Saw: want, Done: true}})
	}
}

func TestStore(t *testing.T) {
	for _, c := range []struct{ saw, v int64 }{{7, 5}, {7, 7}, {7, 0}, {0, -1}, {math.MaxInt64, math.MinInt64}} {
		m := mem.New(1, c.saw, 2)
		if e := m.Store(1, c.v); e != 0 {
			t.Errorf("Store(1, %d) = %d", c.v, e)
		}
		same(t, "a Store", m, told{[]int64{1, c.v, 2}, 1, api.Access{Kind: api.AStore, At: 1, Val: c.v, Saw: c.saw, Done: true}})
	}
}

func TestSwap(t *testing.T) {
	for _, c := range []struct {
		saw, old, v int64
		done        bool
	}{
		{7, 7, 5, true},
		{7, 7, 7, true},
		{0, 0, 0, true},
		{math.MinInt64, math.MinInt64, math.MaxInt64, true},
		{7, 6, 5, false},
		{7, 5, 7, false},
		{7, 5, 5, false},
		{0, 1, 2, false},
		{1 << 32, 0, 2, false},
		{math.MaxInt64, math.MinInt64, 0, false},
	} {
		m := mem.New(c.old, c.saw, c.old)
		if v, done, e := m.Swap(1, c.old, c.v); v != c.saw || done != c.done || e != 0 {
			t.Errorf("Swap of a %d from %d to %d = %d, %v, %d", c.saw, c.old, c.v, v, done, e)
		}
		stands := c.saw
		if c.done {
			stands = c.v
		}
		same(t, "a Swap", m, told{[]int64{c.old, stands, c.old}, 1, api.Access{Kind: api.ASwap, At: 1, Val: c.v, Saw: c.saw, Done: c.done}})
	}
}

func TestAdd(t *testing.T) {
	for _, c := range []struct{ saw, d, stands int64 }{
		{7, 5, 12},
		{7, 0, 7},
		{7, -9, -2},
		{math.MaxInt64, 1, math.MinInt64},
		{math.MinInt64, -1, math.MaxInt64},
		{math.MaxInt64, math.MaxInt64, -2},
		{math.MinInt64, math.MinInt64, 0},
	} {
		m := mem.New(1, c.saw, 2)
		if v, e := m.Add(1, c.d); v != c.saw || e != 0 {
			t.Errorf("Add of %d to a %d = %d, %d", c.d, c.saw, v, e)
		}
		same(t, "an Add", m, told{[]int64{1, c.stands, 2}, 1, api.Access{Kind: api.AAdd, At: 1, Val: c.d, Saw: c.saw, Done: true}})
	}
}

func TestOutOfRange(t *testing.T) {
	for _, words := range [][]int64{nil, {7}, {0, 7, 0}} {
		m := mem.New(words...)
		stood := look(m)
		for _, a := range []int{-1, -2, len(words), len(words) + 1, api.MaxWords, 1 << 32, -1 << 32, math.MinInt, math.MaxInt} {
			refused(t, m, a, api.ErrRange)
		}
		same(t, "refused", m, stood)
	}
}

// 2.2

func TestRefusedDoesNotCount(t *testing.T) {
	m := mem.New(7, 8)
	m.Add(1, 5)
	stood := look(m)
	refused(t, m, 2, api.ErrRange)
	refused(t, m, -1, api.ErrRange)
	same(t, "refused behind an Add", m, stood)
}

func TestLookingIsNoStep(t *testing.T) {
	m := mem.New(7, 8)
	m.Swap(0, 1, 2)
	stood := look(m)
	for range 3 {
		m.Peek(0)
		m.Peek(2)
		m.All()
		m.Len()
		m.Steps()
		m.Last()
	}
	same(t, "looked at", m, stood)
}

func TestEachAccessIsOneStep(t *testing.T) {
	m := mem.New(7)
	kinds := []int{api.ALoad, api.AStore, api.ASwap, api.ASwap, api.AAdd}
	for i, access := range []func(){
		func() { m.Load(0) },
		func() { m.Store(0, 3) },
		func() { m.Swap(0, 4, 5) },
		func() { m.Swap(0, 3, 5) },
		func() { m.Add(0, 1) },
	} {
		access()
		if m.Steps() != i+1 || m.Last().Kind != kinds[i] {
			t.Errorf("behind access %d: Steps = %d, Last = %v", i, m.Steps(), m.Last())
		}
	}
}

func TestOfNil(t *testing.T) {
	var m *mem.Mem
	for _, a := range []int{0, -1, 1, math.MinInt, math.MaxInt} {
		refused(t, m, a, api.ErrState)
	}
	same(t, "nil", m, told{})
}

func TestOfTheZeroMem(t *testing.T) {
	var m mem.Mem
	refused(t, &m, 0, api.ErrRange)
	same(t, "zero", &m, told{})
}

// 2.3

func TestHandedInIsNotKept(t *testing.T) {
	words := []int64{7, 8, 9}
	m := mem.New(words[:2]...)
	words[0] = 50
	m.Store(1, 60)
	same(t, "the row turned", m, told{[]int64{7, 60}, 1, api.Access{Kind: api.AStore, At: 1, Val: 60, Saw: 8, Done: true}})
	if !slices.Equal(words, []int64{50, 8, 9}) {
		t.Errorf("a Store turned the row: %v", words)
	}
}

func TestAllIsTheCallersOwn(t *testing.T) {
	m := mem.New(7, 8)
	first, second := m.All(), m.All()
	first[0] = 50
	_ = append(first[:1], 51)
	m.Store(1, 60)
	if !slices.Equal(second, []int64{7, 8}) {
		t.Errorf("All = %v", second)
	}
	if got := m.All(); !slices.Equal(got, []int64{7, 60}) {
		t.Errorf("All = %v", got)
	}
}

func TestMemoriesShareNothing(t *testing.T) {
	words := []int64{7, 8}
	one, two := mem.New(words...), mem.New(words...)
	one.Store(0, 1)
	one.Add(1, 1)
	same(t, "the other", two, told{all: []int64{7, 8}})
}

// TestLongRun holds a memory, behind each of many accesses, against a row on which they are done by hand.
func TestLongRun(t *testing.T) {
	want := told{all: []int64{0, 1, 2, 3, 4}}
	m := mem.New(want.all...)
	turn := uint64(1)
	draw := func(n uint64) int64 {
		turn = turn*6364136223846793005 + 1442695040888963407
		return int64((turn >> 33) % n)
	}
	for range 5000 {
		a, old, v := int(draw(7))-1, draw(3), draw(3)
		byMem(m, a, old, v, int(turn>>60)%4)
		byHand(&want, a, old, v, int(turn>>60)%4)
		same(t, "in the run", m, want)
		if t.Failed() {
			return
		}
	}
}

func byMem(m *mem.Mem, a int, old, v int64, which int) {
	switch which {
	case 0:
		m.Load(a)
	case 1:
		m.Store(a, v)
	case 2:
		m.Swap(a, old, v)
	case 3:
		m.Add(a, v)
	}
}

func byHand(w *told, a int, old, v int64, which int) {
	if a < 0 || a >= len(w.all) {
		return
	}
	saw := w.all[a]
	w.steps++
	w.last = api.Access{Kind: []int{api.ALoad, api.AStore, api.ASwap, api.AAdd}[which], At: a, Val: v, Saw: saw, Done: which != 2 || saw == old}
	switch {
	case which == 0:
		w.last.Val = saw
	case which == 3:
		w.all[a] += v
	case w.last.Done:
		w.all[a] = v
	}
}
