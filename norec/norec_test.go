package norec_test

import (
	"math"
	"slices"
	"testing"

	"syncope/api"
	"syncope/mem"
	"syncope/norec"
	"syncope/place"
)

// some is the map of most tests.
var some = place.Map{Stripes: 1, Locks: 1, Threads: 2, Data: 3}

// Where its words stand.
const (
	seqAt   = 1
	wordAt  = 7  // the lock's Word
	countAt = 8  // its Count
	phase0  = 9  // of thread 0
	phase1  = 11 // of thread 1
	a       = 19
	b       = 21
	c       = 23
	size    = 25
)

// begins is what stands in the words at first: the sequence word is at 4; the clock and the stripe, which are nothing to this engine, at no such number.
func begins() []int64 {
	words := make([]int64, size)
	words[0], words[seqAt], words[2] = 9, 4, 17
	words[wordAt], words[countAt] = 6, 64
	words[a], words[b], words[c] = 70, 80, 90
	return words
}

func world() *mem.Mem { return mem.New(begins()...) }

// TestPlaces holds the numbers above against place.
func TestPlaces(t *testing.T) {
	got := []int{place.Seq(some), place.Lock(some, 0, place.Word), place.Lock(some, 0, place.Count),
		place.Thread(some, 0, place.Phase), place.Thread(some, 1, place.Phase),
		place.Data(some, 0), place.Data(some, 1), place.Data(some, 2), place.Size(some)}
	want := []int{seqAt, wordAt, countAt, phase0, phase1, a, b, c, size}
	if !slices.Equal(got, want) {
		t.Fatal(got, want)
	}
}

// load, store and swap are accesses as they are told.
func load(a int, saw int64) api.Access {
	return api.Access{Kind: api.ALoad, At: a, Val: saw, Saw: saw, Done: true}
}

func store(a int, saw, val int64) api.Access {
	return api.Access{Kind: api.AStore, At: a, Val: val, Saw: saw, Done: true}
}

func swap(a int, saw, old, val int64) api.Access {
	return api.Access{Kind: api.ASwap, At: a, Val: val, Saw: saw, Done: saw == old}
}

// seq is a look at the sequence word.
func seq(saw int64) api.Access { return load(seqAt, saw) }

// told is all that an attempt tells of itself.
type told struct {
	value, stamp, made int64
	cause              int
	decided            bool
	places             []int
	writes             []api.Word
}

func look(x *norec.Tx) told {
	places, writes := x.Sets()
	return told{x.Value(), x.Stamp(), x.Made(), x.Cause(), x.Decided(), places, writes}
}

func (s told) equal(o told) bool {
	return s.value == o.value && s.stamp == o.stamp && s.made == o.made && s.cause == o.cause && s.decided == o.decided &&
		slices.Equal(s.places, o.places) && slices.Equal(s.writes, o.writes)
}

// tells fails the test, unless the attempt tells that of itself.
func tells(t *testing.T, x *norec.Tx, want told) {
	t.Helper()
	if got := look(x); !got.equal(want) {
		t.Fatalf("it tells %+v, not %+v", got, want)
	}
}

// steps does what was asked until it is no more busy: its accesses, and what it tells at last. Each Step has to make just one.
func steps(t *testing.T, w *mem.Mem, x *norec.Tx, r int) ([]api.Access, int) {
	t.Helper()
	var list []api.Access
	for r == api.TBusy {
		ahead := w.Steps()
		r = x.Step(w)
		if w.Steps() != ahead+1 {
			t.Fatalf("a Step of %d accesses, behind %v", w.Steps()-ahead, list)
		}
		if list = append(list, w.Last()); len(list) > 1000 {
			t.Fatal("no end")
		}
	}
	return list, r
}

// does fails the test, unless what was asked tells that at last, by these accesses.
func does(t *testing.T, w *mem.Mem, x *norec.Tx, r, want int, accesses ...api.Access) {
	t.Helper()
	got, r := steps(t, w, x, r)
	if r != want || !slices.Equal(got, accesses) {
		t.Fatalf("it tells %d, not %d, by\n%v, not\n%v", r, want, got, accesses)
	}
}

// busy fails the test, unless the next Steps are these accesses, and more are to come.
func busy(t *testing.T, w *mem.Mem, x *norec.Tx, accesses ...api.Access) {
	t.Helper()
	for _, want := range accesses {
		if r := x.Step(w); r != api.TBusy || w.Last() != want {
			t.Fatalf("it tells %d, by %v, not %v", r, w.Last(), want)
		}
	}
}

// begun is thread 0's attempt that has begun, with room for two places read and three written.
func begun(t *testing.T, w *mem.Mem) *norec.Tx {
	t.Helper()
	x := norec.New(some, 0, 2, 3, 1000)
	does(t, w, x, x.Begin(), api.TDone, seq(w.Peek(seqAt)))
	return x
}

// dead fails the test, unless each call is told TDead (Kill TDone, but of a nil one), a Step TDone, and nothing has turned.
func dead(t *testing.T, w *mem.Mem, x *norec.Tx) {
	t.Helper()
	ahead, count := look(x), w.Steps()
	x.Watch(wordAt, 1)
	kill := api.TDone
	if x == nil {
		kill = api.TDead
	}
	got := []int{x.Read(a), x.Write(a, 1), x.Extend(), x.Commit(), x.Kill(api.CScript), x.Step(w)}
	if !slices.Equal(got, []int{api.TDead, api.TDead, api.TDead, api.TDead, kill, api.TDone}) {
		t.Fatal(got)
	}
	if tells(t, x, ahead); w.Steps() != count {
		t.Fatal(w.Steps() - count)
	}
}

// outside is numbers that are not from 0 to many - 1.
func outside(many int) []int {
	return []int{math.MinInt, math.MinInt + 1, -1 << 32, -many, -2, -1, many, many + 1, 256, 1 << 32, 1<<32 + 1, math.MaxInt - 1, math.MaxInt}
}

// Chapter 15's 15.1, as far as it is this chapter's, too.

func TestNew(t *testing.T) {
	most := place.Map{Stripes: api.MaxStripes, Locks: api.MaxLocks, Threads: api.MaxThreads, Conds: api.MaxConds, Data: api.MaxData}
	for _, m := range []place.Map{some, {Stripes: 1, Threads: 1}, most} {
		for thread := range m.Threads {
			x := norec.New(m, thread, 1, 1, 1)
			if x == nil {
				t.Fatal(m, thread)
			}
			dead(t, world(), x)
			tells(t, x, told{})
		}
		for _, thread := range outside(m.Threads) {
			if norec.New(m, thread, 1, 1, 1) != nil {
				t.Error(m, thread)
			}
		}
	}
	for _, m := range []place.Map{{}, {Threads: 1}, {Stripes: 1}, {Stripes: 1, Threads: 5}, {Stripes: 17, Threads: 1}, {Stripes: 1, Threads: 1, Data: -1}, {Stripes: 1, Threads: 1, Locks: 5}} {
		if norec.New(m, 0, 1, 1, 1) != nil {
			t.Error(m)
		}
	}
}

func TestNil(t *testing.T) {
	var x *norec.Tx
	dead(t, world(), x)
	if x.Begin() != api.TDead || x.Step(nil) != api.TDone {
		t.Error("Begin")
	}
	tells(t, x, told{})
	zero := new(norec.Tx)
	if zero.Begin() != api.TDead || zero.Step(nil) != api.TDone {
		t.Error("one that New has not made")
	}
	dead(t, world(), zero)
	tells(t, zero, told{})
}

// TestBeginAnew: behind its end, by either way, nothing is left of it but its Stamp, until there is another.
func TestBeginAnew(t *testing.T) {
	for _, end := range []string{"committed", "killed", "undone"} {
		w := world()
		x := begun(t, w)
		x.Watch(wordAt, 6)
		does(t, w, x, x.Read(a), api.TDone, load(a, 70), seq(4), load(wordAt, 6))
		x.Write(b, 81)
		stamp := int64(4)
		switch end {
		case "committed":
			steps(t, w, x, x.Commit())
			stamp = 6
		case "killed":
			x.Kill(api.CScript)
		case "undone":
			w.Store(wordAt, 7)
			steps(t, w, x, x.Commit())
		}
		dead(t, w, x)
		w.Store(wordAt, 6)
		w.Store(seqAt, 8)
		if x.Begin() != api.TBusy {
			t.Fatal(end)
		}
		tells(t, x, told{stamp: stamp})
		does(t, w, x, api.TBusy, api.TDone, seq(8))
		tells(t, x, told{stamp: 8})
		w.Store(wordAt, 9)
		w.Store(a, 71)
		does(t, w, x, x.Extend(), api.TDone, seq(8), seq(8))
		does(t, w, x, x.Read(a), api.TDone, load(a, 71), seq(8))
		does(t, w, x, x.Commit(), api.TDone, store(phase0, 0, 2), store(phase0, 2, 0))
	}
}

// TestUnderWay: at each access of each call, and while it waits, nothing else may be asked, but Watch and Kill; and a memory that is none is not stepped on.
func TestUnderWay(t *testing.T) {
	w := world()
	x := norec.New(some, 0, 4, 4, 1000)
	none := mem.New(make([]int64, size-1)...)
	ready := func() int {
		x.Watch(wordAt, 6)
		return x.Write(a, 1)
	}
	for _, ask := range []func() int{x.Begin, ready, func() int { return x.Read(b) }, x.Extend, x.Commit} {
		even := w.Peek(seqAt) + 2
		w.Store(seqAt, even-1)
		r := ask()
		for i := 0; r == api.TBusy; i++ {
			if i == 4 {
				w.Store(seqAt, even)
			}
			ahead, count := look(x), w.Steps()
			if x.Begin() != api.TDead || x.Read(a) != api.TDead || x.Read(-1) != api.TDead || x.Write(b, 2) != api.TDead || x.Write(-1, 2) != api.TDead ||
				x.Extend() != api.TDead || x.Commit() != api.TDead || x.Step(nil) != api.TDone || x.Step(none) != api.TDone {
				t.Fatal("it is asked twice")
			}
			if tells(t, x, ahead); w.Steps() != count || none.Steps() != 0 {
				t.Fatal("an access")
			}
			r = x.Step(w)
		}
		if r != api.TDone {
			t.Fatal(r)
		}
		w.Store(seqAt, even)
	}
}

// TestLongMemory: one that has more words than the map is a memory.
func TestLongMemory(t *testing.T) {
	w := mem.New(append(begins(), 1, 2, 3)...)
	x := begun(t, w)
	does(t, w, x, x.Read(c), api.TDone, load(c, 90), seq(4))
	if x.Read(size) != api.TDead || x.Cause() != api.CFull {
		t.Error("a place behind the map's")
	}
}

func TestWatch(t *testing.T) {
	w := world()
	x := norec.New(some, 0, 2, 3, 1000)
	x.Watch(wordAt, 1) // it is not alive
	x.Begin()
	x.Watch(countAt, 64) // it is, from the call of Begin on
	does(t, w, x, api.TBusy, api.TDone, seq(4))
	x.Watch(wordAt, 6)
	x.Watch(countAt, 64)
	x.Watch(b, 80)
	watched := []api.Access{load(countAt, 64), load(wordAt, 6), load(countAt, 64), load(b, 80)}
	does(t, w, x, x.Read(b), api.TDone, append([]api.Access{load(b, 80), seq(4)}, watched...)...)
	does(t, w, x, x.Extend(), api.TDone, append([]api.Access{seq(4), load(b, 80), seq(4)}, watched...)...)
	r := x.Commit()
	x.Watch(c, 91)
	watched = append(append([]api.Access{store(phase0, 0, 2)}, watched...), load(c, 90), store(phase0, 2, 0))
	does(t, w, x, r, api.TDead, watched...)
	tells(t, x, told{value: 80, stamp: 4, cause: api.CWatch, places: []int{b}})
}

// TestWatchNone: a watched place that is none stands in nobody's way, and turns nothing.
func TestWatchNone(t *testing.T) {
	for _, at := range outside(size) {
		for _, val := range []int64{0, 7} {
			w := world()
			x := begun(t, w)
			x.Watch(at, val)
			r, count := x.Read(a), 0
			for ; r == api.TBusy && count < 9; count++ {
				r = x.Step(w)
			}
			if count != 3 || !slices.Equal(w.All(), begins()) {
				t.Error(at, val, r, count)
			}
		}
	}
}

// 16.1

// TestBegin: an even sequence word is the Stamp; for an odd one it waits.
func TestBegin(t *testing.T) {
	for _, stands := range []int64{math.MinInt64, -2, 0, 4, math.MaxInt64 - 1} {
		w := world()
		x := norec.New(some, 1, 2, 3, 1000)
		r := x.Begin()
		for _, odd := range []int64{stands + 1, stands + 1, stands - 1} {
			w.Store(seqAt, odd)
			if r != api.TBusy {
				t.Fatal(stands, r)
			}
			busy(t, w, x, seq(odd))
			tells(t, x, told{})
		}
		w.Store(seqAt, stands)
		does(t, w, x, r, api.TDone, seq(stands))
		tells(t, x, told{stamp: stands})
		if x.Begin() != api.TDead || x.Step(w) != api.TDone {
			t.Error("a Begin of a live one")
		}
		tells(t, x, told{stamp: stands})
	}
}

func TestRead(t *testing.T) {
	w := world()
	x := begun(t, w)
	does(t, w, x, x.Read(c), api.TDone, load(c, 90), seq(4))
	tells(t, x, told{value: 90, stamp: 4, places: []int{c}})
	x.Watch(wordAt, 6)
	x.Watch(countAt, 64)
	r := x.Read(a)
	for range 3 {
		if r != api.TBusy {
			t.Fatal(r)
		}
		tells(t, x, told{value: 90, stamp: 4, places: []int{c}})
		r = x.Step(w)
	}
	does(t, w, x, r, api.TDone, load(countAt, 64))
	tells(t, x, told{value: 70, stamp: 4, places: []int{c, a}})
	// The set has room for two places, and has these: one of them, once more, needs none.
	does(t, w, x, x.Read(c), api.TDone, load(c, 90), seq(4), load(wordAt, 6), load(countAt, 64))
	tells(t, x, told{value: 90, stamp: 4, places: []int{c, a}})
	if x.Read(b) != api.TDead {
		t.Error("a third place")
	}
	tells(t, x, told{value: 90, stamp: 4, cause: api.CFull, places: []int{c, a}})
	dead(t, w, x)
}

// TestReadTwice: Value is what stands there now; what it is held against stays what was read first.
func TestReadTwice(t *testing.T) {
	w := world()
	x := begun(t, w)
	steps(t, w, x, x.Read(a))
	w.Store(a, 71)
	does(t, w, x, x.Read(a), api.TDone, load(a, 71), seq(4))
	tells(t, x, told{value: 71, stamp: 4, places: []int{a}})
	w.Store(a, 70)
	does(t, w, x, x.Extend(), api.TDone, seq(4), load(a, 70), seq(4))
	w.Store(a, 71)
	does(t, w, x, x.Extend(), api.TDead, seq(4), load(a, 71))
	tells(t, x, told{value: 71, stamp: 4, cause: api.CStale, places: []int{a}})
}

// TestReadOwn: what was written is read without an access, whatever stands there, and however full the reads are.
func TestReadOwn(t *testing.T) {
	w := world()
	x := norec.New(some, 0, 0, 3, 1000)
	does(t, w, x, x.Begin(), api.TDone, seq(4))
	x.Write(a, 7)
	x.Write(b, 8)
	x.Write(a, 0)
	w.Store(seqAt, 5)
	for _, want := range []api.Word{{At: b, Val: 8}, {At: a, Val: 0}} {
		does(t, w, x, x.Read(want.At), api.TDone)
		tells(t, x, told{value: want.Val, stamp: 4, writes: []api.Word{{At: a, Val: 0}, {At: b, Val: 8}}})
	}
	if x.Read(c) != api.TDead || x.Cause() != api.CFull {
		t.Error("a place that was not written")
	}
}

// TestReadOutrun: where another one has committed since its Stamp, what it has read is looked through, and then it reads once more.
func TestReadOutrun(t *testing.T) {
	for _, now := range []int64{6, 2, 0, -8, math.MaxInt64 - 1, math.MinInt64} {
		w := world()
		x := begun(t, w)
		steps(t, w, x, x.Read(c))
		x.Watch(wordAt, 6)
		r := x.Read(a)
		busy(t, w, x, load(a, 70))
		w.Store(a, 71)
		w.Store(seqAt, now)
		busy(t, w, x, seq(now), seq(now), load(c, 90), seq(now))
		tells(t, x, told{value: 90, stamp: 4, places: []int{c}})
		busy(t, w, x, load(wordAt, 6))
		tells(t, x, told{value: 90, stamp: now, places: []int{c}})
		does(t, w, x, r, api.TDone, load(a, 71), seq(now), load(wordAt, 6))
		tells(t, x, told{value: 71, stamp: now, places: []int{c, a}})
	}
}

// TestReadOutrunTwice: also ahead of its second look, and where it waits.
func TestReadOutrunTwice(t *testing.T) {
	w := world()
	x := begun(t, w)
	r := x.Read(a)
	w.Store(seqAt, 5)
	busy(t, w, x, load(a, 70), seq(5), seq(5), seq(5))
	w.Store(seqAt, 6)
	busy(t, w, x, seq(6), seq(6))
	tells(t, x, told{stamp: 6})
	busy(t, w, x, load(a, 70))
	w.Store(seqAt, 8)
	busy(t, w, x, seq(8), seq(8))
	w.Store(seqAt, 9)
	busy(t, w, x, seq(9), seq(9))
	tells(t, x, told{stamp: 6})
	w.Store(seqAt, 10)
	does(t, w, x, r, api.TDone, seq(10), seq(10), load(a, 70), seq(10))
	tells(t, x, told{value: 70, stamp: 10, places: []int{a}})
}

// TestReadAborts: what it finds as it looks through; the place that is being read is none of those.
func TestReadAborts(t *testing.T) {
	for _, z := range []struct {
		at    int
		cause int
		more  []api.Access
	}{
		{c, api.CStale, []api.Access{load(c, 1)}},
		{wordAt, api.CWatch, []api.Access{load(c, 90), seq(6), load(wordAt, 1)}},
		{countAt, api.CWatch, []api.Access{load(c, 90), seq(6), load(wordAt, 6), load(countAt, 1)}},
	} {
		w := world()
		x := begun(t, w)
		steps(t, w, x, x.Read(c))
		x.Watch(wordAt, 6)
		x.Watch(countAt, 64)
		w.Store(seqAt, 6)
		w.Store(z.at, 1)
		does(t, w, x, x.Read(a), api.TDead, append([]api.Access{load(a, 70), seq(6), seq(6)}, z.more...)...)
		tells(t, x, told{value: 90, stamp: 4, cause: z.cause, places: []int{c}})
		dead(t, w, x)
	}
}

// TestReadWatched: what is watched is looked at where nobody has committed, too.
func TestReadWatched(t *testing.T) {
	w := world()
	x := begun(t, w)
	x.Watch(wordAt, 6)
	x.Watch(countAt, 65)
	x.Watch(c, 0)
	does(t, w, x, x.Read(a), api.TDead, load(a, 70), seq(4), load(wordAt, 6), load(countAt, 64))
	tells(t, x, told{stamp: 4, cause: api.CWatch})
	dead(t, w, x)
}

// TestNoPlace: of a place that is none, Read and Write are told as of a full set.
func TestNoPlace(t *testing.T) {
	for _, at := range outside(size) {
		w := world()
		x := begun(t, w)
		if x.Read(at) != api.TDead {
			t.Error(at)
		}
		tells(t, x, told{stamp: 4, cause: api.CFull})
		dead(t, w, x)
		x = begun(t, w)
		if x.Write(at, 1) != api.TDead {
			t.Error(at)
		}
		tells(t, x, told{stamp: 4, cause: api.CFull})
		dead(t, w, x)
	}
}

// TestRooms: each place can be read, and written, as far as there is room.
func TestRooms(t *testing.T) {
	m := place.Map{Stripes: api.MaxStripes, Threads: 1, Data: api.MaxData}
	for _, z := range []struct{ asked, is int }{{math.MinInt, 0}, {-1, 0}, {0, 0}, {1, 1}, {5, 5}, {32, 32}, {33, 32}, {math.MaxInt, 32}} {
		for from := range place.Size(m) - 32 {
			w := mem.New(make([]int64, place.Size(m))...)
			x := norec.New(m, 0, z.asked, z.asked, 9)
			steps(t, w, x, x.Begin())
			for i := range z.is {
				if _, r := steps(t, w, x, x.Read(from+i)); r != api.TDone {
					t.Fatal(z, from, i)
				}
			}
			if x.Read(from+z.is) != api.TDead || x.Cause() != api.CFull {
				t.Error(z, from)
			}
			steps(t, w, x, x.Begin())
			for i := range z.is {
				if x.Write(from+i, 7) != api.TDone || x.Write(from, 8) != api.TDone {
					t.Fatal(z, from, i)
				}
			}
			if x.Write(from+z.is, 7) != api.TDead || x.Cause() != api.CFull {
				t.Error(z, from)
			}
		}
	}
}

func TestWrite(t *testing.T) {
	w := world()
	x := begun(t, w)
	for _, word := range []api.Word{{At: b, Val: 1}, {At: a, Val: 2}, {At: size - 1, Val: math.MinInt64}, {At: a, Val: 3}} {
		if x.Write(word.At, word.Val) != api.TDone {
			t.Fatal(word)
		}
	}
	want := told{stamp: 4, writes: []api.Word{{At: b, Val: 1}, {At: a, Val: 3}, {At: size - 1, Val: math.MinInt64}}}
	tells(t, x, want)
	if x.Write(c, 4) != api.TDead {
		t.Error("a fourth place")
	}
	want.cause = api.CFull
	tells(t, x, want)
	dead(t, w, x)
	if !slices.Equal(w.All(), begins()) {
		t.Error("what was not committed is written")
	}
}

// reader is thread 0's attempt that has read c and a, and watches Count and Word.
func reader(t *testing.T, w *mem.Mem) *norec.Tx {
	t.Helper()
	x := begun(t, w)
	steps(t, w, x, x.Read(c))
	steps(t, w, x, x.Read(a))
	x.Watch(countAt, 64)
	x.Watch(wordAt, 6)
	return x
}

func TestExtend(t *testing.T) {
	w := world()
	x := begun(t, w)
	does(t, w, x, x.Extend(), api.TDone, seq(4), seq(4))
	w.Store(seqAt, 6)
	r := x.Extend()
	busy(t, w, x, seq(6))
	tells(t, x, told{stamp: 4})
	// Without a watched place it is the second look that it ends with.
	does(t, w, x, r, api.TDone, seq(6))
	tells(t, x, told{stamp: 6})

	w = world()
	x = reader(t, w)
	w.Store(seqAt, 8)
	r = x.Extend()
	busy(t, w, x, seq(8), load(c, 90), load(a, 70), seq(8), load(countAt, 64))
	tells(t, x, told{value: 70, stamp: 4, places: []int{c, a}})
	does(t, w, x, r, api.TDone, load(wordAt, 6))
	tells(t, x, told{value: 70, stamp: 8, places: []int{c, a}})
}

// TestExtendAgain: where another one commits while it looks through, it begins again, and waits.
func TestExtendAgain(t *testing.T) {
	w := world()
	x := reader(t, w)
	w.Store(seqAt, 5)
	r := x.Extend()
	busy(t, w, x, seq(5), seq(5))
	w.Store(seqAt, 6)
	busy(t, w, x, seq(6), load(c, 90), load(a, 70))
	w.Store(seqAt, 7)
	busy(t, w, x, seq(7), seq(7), seq(7))
	w.Store(seqAt, 8)
	busy(t, w, x, seq(8), load(c, 90), load(a, 70))
	w.Store(seqAt, 2)
	busy(t, w, x, seq(2))
	w.Store(seqAt, 4)
	busy(t, w, x, seq(4), load(c, 90), load(a, 70))
	tells(t, x, told{value: 70, stamp: 4, places: []int{c, a}})
	w.Store(seqAt, 6)
	busy(t, w, x, seq(6), seq(6), load(c, 90), load(a, 70), seq(6))
	// What comes behind the second look is nothing to it any more.
	w.Store(seqAt, 9)
	does(t, w, x, r, api.TDone, load(countAt, 64), load(wordAt, 6))
	tells(t, x, told{value: 70, stamp: 6, places: []int{c, a}})
}

func TestExtendAborts(t *testing.T) {
	for _, z := range []struct {
		at    int
		val   int64
		cause int
		many  int // how many accesses it makes
	}{
		{c, 91, api.CStale, 2}, {c, 0, api.CStale, 2}, {a, 71, api.CStale, 3}, {a, -70, api.CStale, 3},
		{countAt, 65, api.CWatch, 5}, {wordAt, 7, api.CWatch, 6}, {wordAt, 0, api.CWatch, 6},
	} {
		for _, now := range []int64{4, 10} {
			w := world()
			x := reader(t, w)
			w.Store(seqAt, now)
			w.Store(z.at, z.val)
			all := []api.Access{seq(now), load(c, w.Peek(c)), load(a, w.Peek(a)), seq(now), load(countAt, w.Peek(countAt)), load(wordAt, w.Peek(wordAt))}
			does(t, w, x, x.Extend(), api.TDead, all[:z.many]...)
			tells(t, x, told{value: 70, stamp: 4, cause: z.cause, places: []int{c, a}})
			dead(t, w, x)
		}
	}
}

// TestExample: Begin, Read of a place, one watched: four accesses.
func TestExample(t *testing.T) {
	w := world()
	x := norec.New(some, 0, 1, 0, 1)
	first, _ := steps(t, w, x, x.Begin())
	x.Watch(wordAt, 6)
	then, r := steps(t, w, x, x.Read(a))
	if len(first)+len(then) != 4 || r != api.TDone {
		t.Error(first, then, r)
	}
}
