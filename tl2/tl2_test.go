package tl2_test

import (
	"math"
	"slices"
	"testing"

	"syncope/api"
	"syncope/mem"
	"syncope/place"
	"syncope/stripe"
	"syncope/tl2"
)

// some is the map of most tests.
var some = place.Map{Stripes: 3, Locks: 1, Threads: 2, Data: 4}

// Where its words stand.
const (
	clockAt = 0
	row0    = 2 // the stripes
	row1    = 3
	row2    = 4
	wordAt  = 9  // the lock's Word
	countAt = 10 // its Count
	phase0  = 11 // of thread 0
	phase1  = 13 // of thread 1
	a       = 21 // of stripe 2
	b       = 23 // of stripe 1
	c       = 25 // of stripe 0
	d       = 27 // of stripe 2
	size    = 29
)

// begins is what stands in the words at first: the clock is at 5, and no version is above that.
func begins() []int64 {
	words := make([]int64, size)
	words[clockAt] = 5
	words[row0], words[row1], words[row2] = stripe.Free(5), stripe.Free(0), stripe.Free(3)
	words[wordAt], words[countAt] = 4, 64
	words[a], words[b], words[c], words[d] = 70, 80, 90, 100
	return words
}

func world() *mem.Mem { return mem.New(begins()...) }

// TestPlaces holds the numbers above against place.
func TestPlaces(t *testing.T) {
	got := []int{place.Clock(some), place.Stripe(some, 0), place.Stripe(some, 1), place.Stripe(some, 2),
		place.Lock(some, 0, place.Word), place.Lock(some, 0, place.Count), place.Thread(some, 0, place.Phase), place.Thread(some, 1, place.Phase),
		place.Data(some, 0), place.Data(some, 1), place.Data(some, 2), place.Data(some, 3), place.Size(some),
		place.Hash(some, a), place.Hash(some, b), place.Hash(some, c), place.Hash(some, d)}
	want := []int{clockAt, row0, row1, row2, wordAt, countAt, phase0, phase1, a, b, c, d, size, 2, 1, 0, 2}
	if !slices.Equal(got, want) {
		t.Fatal(got, want)
	}
}

// load, add, store and swap are accesses as they are told.
func load(a int, saw int64) api.Access {
	return api.Access{Kind: api.ALoad, At: a, Val: saw, Saw: saw, Done: true}
}

func add(a int, saw, more int64) api.Access {
	return api.Access{Kind: api.AAdd, At: a, Val: more, Saw: saw, Done: true}
}

func store(a int, saw, val int64) api.Access {
	return api.Access{Kind: api.AStore, At: a, Val: val, Saw: saw, Done: true}
}

func swap(a int, saw, old, val int64) api.Access {
	return api.Access{Kind: api.ASwap, At: a, Val: val, Saw: saw, Done: saw == old}
}

// told is all that an attempt tells of itself.
type told struct {
	value, stamp, made int64
	cause              int
	decided            bool
	rows               []int
	writes             []api.Word
}

func look(x *tl2.Tx) told {
	rows, writes := x.Sets()
	return told{x.Value(), x.Stamp(), x.Made(), x.Cause(), x.Decided(), rows, writes}
}

func (s told) equal(o told) bool {
	return s.value == o.value && s.stamp == o.stamp && s.made == o.made && s.cause == o.cause && s.decided == o.decided &&
		slices.Equal(s.rows, o.rows) && slices.Equal(s.writes, o.writes)
}

// tells fails the test, unless the attempt tells that of itself.
func tells(t *testing.T, x *tl2.Tx, want told) {
	t.Helper()
	if got := look(x); !got.equal(want) {
		t.Fatalf("it tells %+v, not %+v", got, want)
	}
}

// steps does what was asked until it is no more busy: its accesses, and what it tells at last. Each Step has to make just one.
func steps(t *testing.T, w *mem.Mem, x *tl2.Tx, r int) ([]api.Access, int) {
	t.Helper()
	var list []api.Access
	for r == api.TBusy {
		ahead := w.Steps()
		r = x.Step(w)
		if w.Steps() != ahead+1 {
			t.Fatalf("a Step of %d accesses, behind %v", w.Steps()-ahead, list)
		}
		if list = append(list, w.Last()); len(list) > 1000 {
			t.Fatal("no end")
		}
	}
	return list, r
}

// does fails the test, unless what was asked tells that at last, by these accesses.
func does(t *testing.T, w *mem.Mem, x *tl2.Tx, r, want int, accesses ...api.Access) {
	t.Helper()
	got, r := steps(t, w, x, r)
	if r != want || !slices.Equal(got, accesses) {
		t.Fatalf("it tells %d, not %d, by\n%v, not\n%v", r, want, got, accesses)
	}
}

// begun is thread 0's attempt that has begun, with room for two stripes and three writes.
func begun(t *testing.T, w *mem.Mem, clock int) *tl2.Tx {
	t.Helper()
	x := tl2.New(some, 0, clock, 2, 3, 1000)
	does(t, w, x, x.Begin(), api.TDone, load(clockAt, w.Peek(clockAt)))
	return x
}

// dead fails the test, unless each call is told TDead (Kill TDone, but of a nil one), a Step TDone, and nothing has turned.
func dead(t *testing.T, w *mem.Mem, x *tl2.Tx) {
	t.Helper()
	ahead, count := look(x), w.Steps()
	x.Watch(wordAt, 1)
	kill := api.TDone
	if x == nil {
		kill = api.TDead
	}
	got := []int{x.Read(a), x.Write(a, 1), x.Extend(), x.Commit(), x.Kill(api.CScript), x.Step(w)}
	if !slices.Equal(got, []int{api.TDead, api.TDead, api.TDead, api.TDead, kill, api.TDone}) {
		t.Fatal(got)
	}
	if tells(t, x, ahead); w.Steps() != count {
		t.Fatal(w.Steps() - count)
	}
}

// outside is numbers that are not from 0 to many - 1.
func outside(many int) []int {
	return []int{math.MinInt, math.MinInt + 1, -1 << 32, -many, -2, -1, many, many + 1, 256, 1 << 32, 1<<32 + 1, math.MaxInt - 1, math.MaxInt}
}

// 15.1

func TestNew(t *testing.T) {
	most := place.Map{Stripes: api.MaxStripes, Locks: api.MaxLocks, Threads: api.MaxThreads, Conds: api.MaxConds, Data: api.MaxData}
	for _, m := range []place.Map{some, {Stripes: 1, Threads: 1}, most} {
		for thread := range m.Threads {
			for _, clock := range []int{api.GV1, api.GV4} {
				x := tl2.New(m, thread, clock, 1, 1, 1)
				if x == nil {
					t.Fatal(m, thread, clock)
				}
				dead(t, world(), x)
				tells(t, x, told{})
			}
		}
		for _, thread := range outside(m.Threads) {
			if tl2.New(m, thread, api.GV1, 1, 1, 1) != nil {
				t.Error(m, thread)
			}
		}
		for _, clock := range append(outside(3), 0) {
			if tl2.New(m, 0, clock, 1, 1, 1) != nil {
				t.Error(m, clock)
			}
		}
	}
	for _, m := range []place.Map{{}, {Threads: 1}, {Stripes: 1}, {Stripes: 1, Threads: 5}, {Stripes: 17, Threads: 1}, {Stripes: 1, Threads: 1, Data: -1}, {Stripes: 1, Threads: 1, Locks: 5}} {
		if tl2.New(m, 0, api.GV1, 1, 1, 1) != nil {
			t.Error(m)
		}
	}
}

func TestNil(t *testing.T) {
	var x *tl2.Tx
	dead(t, world(), x)
	if x.Begin() != api.TDead || x.Step(nil) != api.TDone {
		t.Error("Begin")
	}
	tells(t, x, told{})
	zero := new(tl2.Tx)
	if zero.Begin() != api.TDead || zero.Step(nil) != api.TDone {
		t.Error("one that New has not made")
	}
	dead(t, world(), zero)
	tells(t, zero, told{})
}

func TestBegin(t *testing.T) {
	for _, stands := range []int64{math.MinInt64, -1, 0, 5, math.MaxInt64} {
		w := world()
		w.Store(clockAt, stands)
		x := tl2.New(some, 1, api.GV1, 2, 3, 1000)
		if x.Begin() != api.TBusy {
			t.Fatal(stands)
		}
		tells(t, x, told{})
		does(t, w, x, api.TBusy, api.TDone, load(clockAt, stands))
		tells(t, x, told{stamp: stands})
		if x.Begin() != api.TDead || x.Step(w) != api.TDone {
			t.Error("a Begin of a live one")
		}
		tells(t, x, told{stamp: stands})
	}
}

// TestBeginAnew: behind its end, by either way, nothing is left of it but its Stamp, until there is another.
func TestBeginAnew(t *testing.T) {
	for _, end := range []string{"committed", "killed", "undone"} {
		w := world()
		x := begun(t, w, api.GV1)
		x.Watch(wordAt, 4)
		does(t, w, x, x.Read(a), api.TDone, load(row2, 48), load(a, 70), load(row2, 48), load(wordAt, 4))
		x.Write(b, 81)
		stamp := int64(5)
		switch end {
		case "committed":
			steps(t, w, x, x.Commit())
			stamp = 6
		case "killed":
			x.Kill(api.CScript)
		case "undone":
			w.Store(wordAt, 5)
			steps(t, w, x, x.Commit())
		}
		dead(t, w, x)
		w.Store(wordAt, 4)
		w.Store(clockAt, 9)
		if x.Begin() != api.TBusy {
			t.Fatal(end)
		}
		tells(t, x, told{stamp: stamp})
		does(t, w, x, api.TBusy, api.TDone, load(clockAt, 9))
		tells(t, x, told{stamp: 9})
		w.Store(wordAt, 7)
		row := w.Peek(row1)
		does(t, w, x, x.Read(b), api.TDone, load(row1, row), load(b, w.Peek(b)), load(row1, row))
		does(t, w, x, x.Commit(), api.TDone, store(phase0, 0, 2), store(phase0, 2, 0))
	}
}

// TestUnderWay: at each access of each call nothing else may be asked, but Watch and Kill.
func TestUnderWay(t *testing.T) {
	w := world()
	x := begun(t, w, api.GV4)
	x.Watch(wordAt, 4)
	x.Write(a, 1)
	none := mem.New(make([]int64, size-1)...)
	for _, ask := range []func() int{func() int { return x.Read(b) }, x.Extend, x.Commit} {
		r := ask()
		for r == api.TBusy {
			ahead, count := look(x), w.Steps()
			if x.Begin() != api.TDead || x.Read(a) != api.TDead || x.Read(-1) != api.TDead || x.Write(b, 2) != api.TDead || x.Write(-1, 2) != api.TDead ||
				x.Extend() != api.TDead || x.Commit() != api.TDead || x.Step(nil) != api.TDone || x.Step(none) != api.TDone {
				t.Fatal("it is asked twice")
			}
			if tells(t, x, ahead); w.Steps() != count || none.Steps() != 0 {
				t.Fatal("an access")
			}
			r = x.Step(w)
		}
		if r != api.TDone {
			t.Fatal(r)
		}
	}
}

// TestLongMemory: one that has more words than the map is a memory.
func TestLongMemory(t *testing.T) {
	w := mem.New(append(begins(), 1, 2, 3)...)
	x := begun(t, w, api.GV1)
	does(t, w, x, x.Read(c), api.TDone, load(row0, 80), load(c, 90), load(row0, 80))
	if x.Read(size) != api.TDead || x.Cause() != api.CFull {
		t.Error("a place behind the map's")
	}
}

func TestWatch(t *testing.T) {
	w := world()
	x := tl2.New(some, 0, api.GV1, 2, 3, 1000)
	x.Watch(wordAt, 1) // it is not alive
	x.Begin()
	x.Watch(countAt, 64) // it is, from the call of Begin on
	does(t, w, x, api.TBusy, api.TDone, load(clockAt, 5))
	x.Watch(wordAt, 4)
	x.Watch(countAt, 64)
	x.Watch(b, 80)
	watched := []api.Access{load(countAt, 64), load(wordAt, 4), load(countAt, 64), load(b, 80)}
	does(t, w, x, x.Read(b), api.TDone, append([]api.Access{load(row1, 0), load(b, 80), load(row1, 0)}, watched...)...)
	does(t, w, x, x.Extend(), api.TDone, append([]api.Access{load(clockAt, 5), load(row1, 0)}, watched...)...)
	r := x.Commit()
	x.Watch(c, 91)
	watched = append(append([]api.Access{store(phase0, 0, 2)}, watched...), load(c, 90), store(phase0, 2, 0))
	does(t, w, x, r, api.TDead, watched...)
	tells(t, x, told{value: 80, stamp: 5, cause: api.CWatch, rows: []int{1}})
}

// TestWatchNone: a watched place that is none stands in nobody's way, and turns nothing.
func TestWatchNone(t *testing.T) {
	for _, at := range outside(size) {
		for _, val := range []int64{0, 7} {
			w := world()
			x := begun(t, w, api.GV1)
			x.Watch(at, val)
			r, count := x.Read(a), 0
			for ; r == api.TBusy && count < 9; count++ {
				r = x.Step(w)
			}
			if count != 4 || !slices.Equal(w.All(), begins()) {
				t.Error(at, val, r, count)
			}
		}
	}
}

// 15.2

func TestRead(t *testing.T) {
	w := world()
	x := begun(t, w, api.GV1)
	does(t, w, x, x.Read(c), api.TDone, load(row0, 80), load(c, 90), load(row0, 80))
	tells(t, x, told{value: 90, stamp: 5, rows: []int{0}})
	x.Watch(wordAt, 4)
	x.Watch(countAt, 64)
	r := x.Read(a)
	for range 4 {
		if r != api.TBusy {
			t.Fatal(r)
		}
		tells(t, x, told{value: 90, stamp: 5, rows: []int{0}})
		r = x.Step(w)
	}
	does(t, w, x, r, api.TDone, load(countAt, 64))
	tells(t, x, told{value: 70, stamp: 5, rows: []int{0, 2}})
	// The sets have room for two stripes, and have these: another place of one of them needs none.
	does(t, w, x, x.Read(d), api.TDone, load(row2, 48), load(d, 100), load(row2, 48), load(wordAt, 4), load(countAt, 64))
	tells(t, x, told{value: 100, stamp: 5, rows: []int{0, 2}})
	if x.Read(b) != api.TDead {
		t.Error("a third stripe")
	}
	tells(t, x, told{value: 100, stamp: 5, cause: api.CFull, rows: []int{0, 2}})
	dead(t, w, x)
}

// TestReadOwn: what was written is read without an access, whatever stands there, and however full the reads are.
func TestReadOwn(t *testing.T) {
	w := world()
	x := tl2.New(some, 0, api.GV1, 0, 3, 1000)
	does(t, w, x, x.Begin(), api.TDone, load(clockAt, 5))
	x.Write(a, 7)
	x.Write(b, 8)
	x.Write(a, 0)
	w.Store(row2, stripe.Taken(0, 1))
	for _, want := range []api.Word{{At: b, Val: 8}, {At: a, Val: 0}} {
		does(t, w, x, x.Read(want.At), api.TDone)
		tells(t, x, told{value: want.Val, stamp: 5, writes: []api.Word{{At: a, Val: 0}, {At: b, Val: 8}}})
	}
	if x.Read(d) != api.TDead || x.Cause() != api.CFull {
		t.Error("a place of the same stripe that was not written")
	}
}

// TestReadFresh: what a stripe's first look says.
func TestReadFresh(t *testing.T) {
	for _, z := range []struct {
		stripe int64
		cause  int
	}{
		{stripe.Free(5), 0}, {stripe.Free(4), 0}, {stripe.Free(-1), 0}, {stripe.Free(6), api.CStale}, {stripe.Free(1 << 40), api.CStale},
		{stripe.Taken(0, 1), api.CLocked}, {stripe.Taken(0, 0), api.CLocked}, {stripe.Taken(stripe.Free(6), 1), api.CLocked}, {15, api.CLocked},
	} {
		w := world()
		w.Store(row2, z.stripe)
		x := begun(t, w, api.GV1)
		if z.cause == 0 {
			does(t, w, x, x.Read(a), api.TDone, load(row2, z.stripe), load(a, 70), load(row2, z.stripe))
			tells(t, x, told{value: 70, stamp: 5, rows: []int{2}})
			continue
		}
		does(t, w, x, x.Read(a), api.TDead, load(row2, z.stripe))
		tells(t, x, told{stamp: 5, cause: z.cause})
		dead(t, w, x)
	}
}

// TestReadTurned: the stripe is another one behind the word.
func TestReadTurned(t *testing.T) {
	for _, now := range []int64{stripe.Free(2), stripe.Free(6), stripe.Taken(48, 0), stripe.Taken(48, 1), 0} {
		w := world()
		x := begun(t, w, api.GV1)
		x.Watch(wordAt, 5)
		r := x.Read(a)
		x.Step(w)
		x.Step(w)
		w.Store(row2, now)
		does(t, w, x, r, api.TDead, load(row2, now))
		tells(t, x, told{stamp: 5, cause: api.CStale})
	}
}

func TestReadWatched(t *testing.T) {
	w := world()
	x := begun(t, w, api.GV1)
	x.Watch(wordAt, 4)
	x.Watch(countAt, 65)
	x.Watch(c, 0)
	does(t, w, x, x.Read(a), api.TDead, load(row2, 48), load(a, 70), load(row2, 48), load(wordAt, 4), load(countAt, 64))
	tells(t, x, told{stamp: 5, cause: api.CWatch})
	dead(t, w, x)
}

// TestNoPlace: of a place that is none, Read and Write are told as of a full set.
func TestNoPlace(t *testing.T) {
	for _, at := range outside(size) {
		w := world()
		x := begun(t, w, api.GV1)
		if x.Read(at) != api.TDead {
			t.Error(at)
		}
		tells(t, x, told{stamp: 5, cause: api.CFull})
		dead(t, w, x)
		x = begun(t, w, api.GV1)
		if x.Write(at, 1) != api.TDead {
			t.Error(at)
		}
		tells(t, x, told{stamp: 5, cause: api.CFull})
		dead(t, w, x)
	}
}

// TestRooms: each place can be read, and written, as far as there is room.
func TestRooms(t *testing.T) {
	m := place.Map{Stripes: api.MaxStripes, Threads: 1, Data: api.MaxData}
	for _, z := range []struct{ asked, is int }{{math.MinInt, 0}, {-1, 0}, {0, 0}, {1, 1}, {5, 5}, {32, 32}, {33, 32}, {math.MaxInt, 32}} {
		w := mem.New(make([]int64, place.Size(m))...)
		x := tl2.New(m, 0, api.GV4, z.asked, z.asked, 9)
		steps(t, w, x, x.Begin())
		rows, at := map[int]bool{}, 0
		for ; at < place.Size(m); at++ {
			if rows[place.Hash(m, at)] = true; len(rows) > z.is {
				break
			}
			if _, r := steps(t, w, x, x.Read(at)); r != api.TDone {
				t.Fatal(z, at)
			}
		}
		if at < place.Size(m) && (x.Read(at) != api.TDead || x.Cause() != api.CFull) {
			t.Error(z, at)
		}
		x.Kill(0)
		steps(t, w, x, x.Begin())
		for at := range z.is {
			if x.Write(at, 7) != api.TDone || x.Write(0, 8) != api.TDone {
				t.Fatal(z, at)
			}
		}
		if x.Write(z.is, 7) != api.TDead || x.Cause() != api.CFull {
			t.Error(z)
		}
	}
}

func TestWrite(t *testing.T) {
	w := world()
	x := begun(t, w, api.GV1)
	for _, word := range []api.Word{{At: b, Val: 1}, {At: a, Val: 2}, {At: d, Val: math.MinInt64}, {At: a, Val: 3}} {
		if x.Write(word.At, word.Val) != api.TDone {
			t.Fatal(word)
		}
	}
	want := told{stamp: 5, writes: []api.Word{{At: b, Val: 1}, {At: a, Val: 3}, {At: d, Val: math.MinInt64}}}
	tells(t, x, want)
	if x.Write(c, 4) != api.TDead {
		t.Error("a fourth place")
	}
	want.cause = api.CFull
	tells(t, x, want)
	dead(t, w, x)
	if !slices.Equal(w.All(), begins()) {
		t.Error("what was not committed is written")
	}
}

func TestExtend(t *testing.T) {
	w := world()
	x := begun(t, w, api.GV1)
	w.Store(clockAt, 7)
	does(t, w, x, x.Extend(), api.TDone, load(clockAt, 7))
	tells(t, x, told{stamp: 7})
	steps(t, w, x, x.Read(c))
	steps(t, w, x, x.Read(a))
	x.Watch(countAt, 64)
	x.Watch(wordAt, 4)
	w.Store(clockAt, 9)
	w.Store(row2, stripe.Free(7))
	r := x.Extend()
	for range 4 {
		if r != api.TBusy || x.Stamp() != 7 {
			t.Fatal(r, x.Stamp())
		}
		r = x.Step(w)
	}
	does(t, w, x, r, api.TDone, load(wordAt, 4))
	tells(t, x, told{value: 70, stamp: 9, rows: []int{0, 2}})
	// A place that could not be read ahead of it.
	w.Store(row2, stripe.Free(9))
	does(t, w, x, x.Read(a), api.TDone, load(row2, 144), load(a, 70), load(row2, 144), load(countAt, 64), load(wordAt, 4))
}

func TestExtendAborts(t *testing.T) {
	for _, z := range []struct {
		at    int
		val   int64
		cause int
		many  int // how many accesses it makes
	}{
		{row0, stripe.Taken(80, 1), api.CLocked, 2}, {row0, stripe.Taken(80, 0), api.CLocked, 2}, {row0, stripe.Free(6), api.CStale, 2},
		{row2, stripe.Taken(stripe.Free(9), 1), api.CLocked, 3}, {row2, stripe.Free(9), api.CStale, 3},
		{wordAt, 5, api.CWatch, 4}, {countAt, 0, api.CWatch, 5},
	} {
		w := world()
		x := begun(t, w, api.GV1)
		x.Watch(wordAt, 4)
		x.Watch(countAt, 64)
		steps(t, w, x, x.Read(c))
		steps(t, w, x, x.Read(a))
		w.Store(clockAt, 9)
		w.Store(z.at, z.val)
		all := []api.Access{load(clockAt, 9), load(row0, w.Peek(row0)), load(row2, w.Peek(row2)), load(wordAt, w.Peek(wordAt)), load(countAt, w.Peek(countAt))}
		does(t, w, x, x.Extend(), api.TDead, all[:z.many]...)
		tells(t, x, told{value: 70, stamp: 5, cause: z.cause, rows: []int{0, 2}})
		dead(t, w, x)
	}
}
