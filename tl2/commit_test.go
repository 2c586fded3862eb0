package tl2_test

import (
	"math"
	"slices"
	"testing"

	"syncope/api"
	"syncope/mem"
	"syncope/place"
	"syncope/stripe"
	"syncope/tl2"
)

// 15.3

// TestCommitReads: one that has written nothing looks at what is watched, and at nothing else.
func TestCommitReads(t *testing.T) {
	for _, clock := range []int{api.GV1, api.GV4} {
		w := world()
		x := begun(t, w, clock)
		steps(t, w, x, x.Read(a))
		w.Store(row2, stripe.Taken(stripe.Free(9), 1))
		w.Store(clockAt, 9)
		r := x.Commit()
		if x.Decided() {
			t.Error("decided ahead of its first access")
		}
		if r = x.Step(w); r != api.TBusy || !x.Decided() || w.Last() != store(phase0, 0, 2) {
			t.Error(r, w.Last())
		}
		does(t, w, x, r, api.TDone, store(phase0, 2, 0))
		tells(t, x, told{value: 70, stamp: 5, decided: true, rows: []int{2}})
		dead(t, w, x)

		x = begun(t, w, clock)
		x.Watch(wordAt, 4)
		x.Watch(countAt, 64)
		does(t, w, x, x.Commit(), api.TDone, store(phase0, 0, 2), load(wordAt, 4), load(countAt, 64), store(phase0, 2, 0))
		x = begun(t, w, clock)
		x.Watch(wordAt, 4)
		x.Watch(countAt, 65)
		x.Watch(c, 90)
		does(t, w, x, x.Commit(), api.TDead, store(phase0, 0, 2), load(wordAt, 4), load(countAt, 64), store(phase0, 2, 0))
		tells(t, x, told{stamp: 9, cause: api.CWatch})
		dead(t, w, x)
	}
}

// writer is thread 0's attempt that has read a and c, watches Word, and is to write d, b and a: in the stripes 1 and 2.
func writer(t *testing.T, w *mem.Mem, clock int) *tl2.Tx {
	t.Helper()
	x := begun(t, w, clock)
	x.Watch(wordAt, 4)
	steps(t, w, x, x.Read(c))
	steps(t, w, x, x.Read(a))
	x.Write(d, 1)
	x.Write(b, 2)
	x.Write(a, 3)
	return x
}

// wrote is what a writer tells when it is decided.
func wrote(stamp, made int64) told {
	return told{value: 70, stamp: stamp, made: made, decided: true, rows: []int{0, 2}, writes: []api.Word{{At: d, Val: 1}, {At: b, Val: 2}, {At: a, Val: 3}}}
}

// Its accesses: up to the last stripe that it takes; behind those that look whether it may be committed.
func takes() []api.Access {
	return []api.Access{store(phase0, 0, 2), load(row1, 0), swap(row1, 0, 0, 1), load(row2, 48), swap(row2, 48, 48, 49)}
}

func lays(made int64) []api.Access {
	return []api.Access{store(d, 100, 1), store(b, 80, 2), store(a, 70, 3), store(row1, 1, stripe.Free(made)), store(row2, 49, stripe.Free(made)), store(phase0, 2, 0)}
}

// TestCommit: with or without others' stamps between its own two, by either clock.
func TestCommit(t *testing.T) {
	for _, z := range []struct {
		clock  int
		stands int64
		middle []api.Access
	}{
		{api.GV1, 5, []api.Access{add(clockAt, 5, 1)}}, // nobody else was there: no stripe is looked at
		{api.GV1, 6, []api.Access{add(clockAt, 6, 1), load(row0, 80), load(row2, 49)}},
		{api.GV1, 8, []api.Access{add(clockAt, 8, 1), load(row0, 80), load(row2, 49)}},
		{api.GV4, 5, []api.Access{load(clockAt, 5), swap(clockAt, 5, 5, 6), load(row0, 80), load(row2, 49)}},
		{api.GV4, 8, []api.Access{load(clockAt, 8), swap(clockAt, 8, 8, 9), load(row0, 80), load(row2, 49)}},
	} {
		w := world()
		x := writer(t, w, z.clock)
		w.Store(clockAt, z.stands)
		made := z.stands + 1
		does(t, w, x, x.Commit(), api.TDone, slices.Concat(takes(), z.middle, []api.Access{load(wordAt, 4)}, lays(made))...)
		tells(t, x, wrote(made, made))
		dead(t, w, x)
		want := begins()
		want[clockAt], want[row1], want[row2] = made, stripe.Free(made), stripe.Free(made)
		want[d], want[b], want[a] = 1, 2, 3
		if !slices.Equal(w.All(), want) {
			t.Error(z, w.All())
		}
	}
}

// TestCommitOfThread: each thread of each map has its own Phase, and its own mark.
func TestCommitOfThread(t *testing.T) {
	for _, m := range []place.Map{some, {Stripes: 1, Threads: 1, Data: 1}, {Stripes: 16, Locks: 4, Threads: 4, Conds: 4, Data: 32}} {
		for thread := range m.Threads {
			w := mem.New(make([]int64, place.Size(m))...)
			x := tl2.New(m, thread, api.GV1, 1, 1, 1)
			steps(t, w, x, x.Begin())
			at := place.Data(m, m.Data-1)
			x.Write(at, 7)
			row, phase, mark := place.Stripe(m, place.Hash(m, at)), place.Thread(m, thread, place.Phase), int64(thread+1)
			does(t, w, x, x.Commit(), api.TDone, store(phase, 0, 2), load(row, 0), swap(row, 0, 0, mark), add(0, 0, 1),
				store(at, 0, 7), store(row, mark, 16), store(phase, 2, 0))
		}
	}
}

// TestCommitJoins: by GV4 the stamp may be another one's, and what was read is looked at then, too.
func TestCommitJoins(t *testing.T) {
	for _, now := range []int64{6, 9} {
		w := world()
		x := writer(t, w, api.GV4)
		r := x.Commit()
		for range 6 {
			r = x.Step(w)
		}
		w.Store(clockAt, now)
		middle := []api.Access{swap(clockAt, now, 5, 6), load(row0, 80), load(row2, 49), load(wordAt, 4)}
		does(t, w, x, r, api.TDone, append(middle, lays(now)...)...)
		tells(t, x, wrote(now, now))
	}
}

// TestDecided: with the last access of a to e, whichever that is; from then on nothing aborts it.
func TestDecided(t *testing.T) {
	for _, z := range []struct {
		clock, reads, watched int
		ahead                 int // how many accesses come up to that one
	}{
		{api.GV1, 0, 0, 4}, {api.GV1, 1, 0, 4}, {api.GV1, 1, 1, 5}, {api.GV1, 0, 2, 6},
		{api.GV4, 0, 0, 5}, {api.GV4, 1, 0, 6}, {api.GV4, 2, 0, 7}, {api.GV4, 2, 2, 9}, {api.GV4, 0, 1, 6},
	} {
		w := world()
		x := begun(t, w, z.clock)
		for _, at := range []int{a, c}[:z.reads] {
			steps(t, w, x, x.Read(at))
		}
		for range z.watched {
			x.Watch(wordAt, 4)
		}
		x.Write(b, 2)
		r := x.Commit()
		for i := range z.ahead {
			if x.Decided() || r != api.TBusy {
				t.Fatal(z, i, r)
			}
			r = x.Step(w)
		}
		if !x.Decided() || r != api.TBusy || x.Made() != 6 || x.Stamp() != 5 {
			t.Fatal(z, r)
		}
		if x.Kill(api.CScript) != api.TDone || x.Cause() != 0 || x.Read(a) != api.TDead || x.Begin() != api.TDead {
			t.Fatal(z)
		}
		w.Store(wordAt, 5)
		does(t, w, x, r, api.TDone, store(b, 80, 2), store(row1, 1, 96), store(phase0, 2, 0))
		if !x.Decided() || x.Stamp() != 6 {
			t.Fatal(z)
		}
	}
}

// TestCommitAborts: each word that keeps a writer from being committed, the access that finds it, and how it is undone.
func TestCommitAborts(t *testing.T) {
	put1, put2, out := store(row1, 1, 0), store(row2, 49, 48), store(phase0, 2, 0)
	for _, z := range []struct {
		name  string
		ahead int // behind how many accesses it comes to stand there
		at    int
		val   int64
		cause int
		more  []api.Access // that it makes behind these
	}{
		{"taken by the other", 0, row1, 2, api.CLocked, []api.Access{store(phase0, 0, 2), load(row1, 2), out}},
		{"taken by itself", 1, row1, 1, api.CLocked, []api.Access{load(row1, 1), out}},
		{"a mark of nobody", 1, row1, 15, api.CLocked, []api.Access{load(row1, 15), out}},
		{"quicker", 2, row1, 2, api.CLocked, []api.Access{swap(row1, 2, 0, 1), out}},
		{"a new version", 2, row1, 96, api.CLocked, []api.Access{swap(row1, 96, 0, 1), out}},
		{"the second is taken", 3, row2, 50, api.CLocked, []api.Access{load(row2, 50), put1, out}},
		{"the second is quicker", 4, row2, 112, api.CLocked, []api.Access{swap(row2, 112, 48, 49), put1, out}},
		{"what was read is held", 7, row0, 82, api.CLocked, []api.Access{load(row0, 82), put1, put2, out}},
		{"what was read is held, and of a new version", 7, row0, 98, api.CLocked, []api.Access{load(row0, 98), put1, put2, out}},
		{"what was read is marked by nobody", 7, row0, 95, api.CLocked, []api.Access{load(row0, 95), put1, put2, out}},
		{"what was read is another one", 7, row0, 96, api.CStale, []api.Access{load(row0, 96), put1, put2, out}},
		{"what was read is its own, and another one", 7, row0, 97, api.CStale, []api.Access{load(row0, 97), put1, put2, out}},
		{"what is watched", 0, wordAt, 5, api.CWatch, slices.Concat(takes(), []api.Access{load(clockAt, 5), swap(clockAt, 5, 5, 6), load(row0, 80), load(row2, 49), load(wordAt, 5), put1, put2, out})},
		{"what is watched, at last", 9, wordAt, 6, api.CWatch, []api.Access{load(wordAt, 6), put1, put2, out}},
	} {
		w := world()
		x := writer(t, w, api.GV4)
		r := x.Commit()
		for range z.ahead {
			r = x.Step(w)
		}
		w.Store(z.at, z.val)
		stands := w.Peek(z.at)
		does(t, w, x, r, api.TDead, z.more...)
		want := wrote(5, 0)
		want.decided, want.cause = false, z.cause
		tells(t, x, want)
		dead(t, w, x)
		words := begins()
		words[clockAt], words[z.at] = w.Peek(clockAt), stands
		if !slices.Equal(w.All(), words) {
			t.Errorf("%s: %v, not %v", z.name, w.All(), words)
		}
	}
}

// TestCommitTaken: a stripe that it has read, and taken as another one than it was then, is stale.
func TestCommitTaken(t *testing.T) {
	w := world()
	x := writer(t, w, api.GV4)
	w.Store(row2, stripe.Free(6))
	does(t, w, x, x.Commit(), api.TDead, store(phase0, 0, 2), load(row1, 0), swap(row1, 0, 0, 1), load(row2, 96), swap(row2, 96, 96, 97),
		load(clockAt, 5), swap(clockAt, 5, 5, 6), load(row0, 80), load(row2, 97), store(row1, 1, 0), store(row2, 97, 96), store(phase0, 2, 0))
	want := wrote(5, 0)
	want.decided, want.cause = false, api.CStale
	tells(t, x, want)
}

// TestUndone: while it is undone, Made is 0 and Cause is told, and it is asked in vain, begun anew too.
func TestUndone(t *testing.T) {
	w := world()
	x := writer(t, w, api.GV1)
	x.Watch(countAt, 65)
	r := x.Commit()
	for range 7 {
		if r != api.TBusy || x.Cause() != 0 {
			t.Fatal(r, x.Cause())
		}
		r = x.Step(w)
	}
	if x.Made() != 6 {
		t.Fatal(x.Made())
	}
	r = x.Step(w)
	want := wrote(5, 0)
	want.decided, want.cause = false, api.CWatch
	for range 3 {
		tells(t, x, want)
		if r != api.TBusy || x.Begin() != api.TDead || x.Kill(api.CScript) != api.TDone || x.Read(d) != api.TDead || x.Write(a, 1) != api.TDead || x.Commit() != api.TDead || x.Extend() != api.TDead || x.Step(nil) != api.TDone {
			t.Fatal(r)
		}
		x.Watch(c, 9)
		tells(t, x, want)
		r = x.Step(w)
	}
	if r != api.TDead {
		t.Fatal(r)
	}
	tells(t, x, want)
	dead(t, w, x)
}

// TestOver: a stamp above the most that there may be aborts it; the clock stays where it is then.
func TestOver(t *testing.T) {
	for _, z := range []struct {
		stands, top int64
		over        bool
	}{
		{5, 6, false}, {5, 5, true}, {5, 0, true}, {5, math.MaxInt64, false}, {-9, -8, false}, {-9, -9, true}, {5, math.MinInt64, true},
		{math.MaxInt64 - 1, math.MaxInt64, false}, {math.MaxInt64, math.MinInt64, false}, {math.MaxInt64, 0, false},
	} {
		for _, clock := range []int{api.GV1, api.GV4} {
			w := mem.New(make([]int64, size)...)
			w.Store(clockAt, z.stands)
			x := tl2.New(some, 1, clock, 1, 1, z.top)
			steps(t, w, x, x.Begin())
			x.Write(a, 7)
			_, r := steps(t, w, x, x.Commit())
			made := z.stands + 1
			want, ends := told{stamp: made, made: made, decided: true, writes: []api.Word{{At: a, Val: 7}}}, api.TDone
			if z.over {
				want.stamp, want.made, want.decided, want.cause, ends = z.stands, 0, false, api.COver, api.TDead
			}
			if tells(t, x, want); r != ends {
				t.Error(z, clock, r)
			}
			if w.Peek(clockAt) != made || w.Peek(phase1) != 0 || stripe.Holder(w.Peek(row2)) != -1 {
				t.Error(z, clock, w.All())
			}
		}
	}
}

// TestWraps: behind the clock's last number comes its first one; a stamp of 0 is one.
func TestWraps(t *testing.T) {
	w := mem.New(make([]int64, size)...)
	w.Store(clockAt, math.MaxInt64)
	x := tl2.New(some, 0, api.GV1, 2, 1, 0)
	steps(t, w, x, x.Begin())
	steps(t, w, x, x.Read(c))
	x.Write(a, 7)
	// One more than its Stamp: no stripe is looked at.
	does(t, w, x, x.Commit(), api.TDone, store(phase0, 0, 2), load(row2, 0), swap(row2, 0, 0, 1), add(clockAt, math.MaxInt64, 1), store(a, 0, 7), store(row2, 1, 0), store(phase0, 2, 0))
	if x.Made() != math.MinInt64 || x.Stamp() != math.MinInt64 {
		t.Error(x.Made(), x.Stamp())
	}
	w = mem.New(make([]int64, size)...)
	w.Store(clockAt, -1)
	w.Store(row2, stripe.Free(-1))
	steps(t, w, x, x.Begin())
	x.Write(a, 7)
	does(t, w, x, x.Commit(), api.TDone, store(phase0, 0, 2), load(row2, -16), swap(row2, -16, -16, -15), add(clockAt, -1, 1), store(a, 0, 7), store(row2, -15, 0), store(phase0, 2, 0))
	if x.Made() != 0 || x.Stamp() != 0 || !x.Decided() {
		t.Error(x.Made(), x.Stamp())
	}
}

// TestKill: ahead of each access of each call, by any cause, 0 too.
func TestKill(t *testing.T) {
	for _, cause := range []int{api.CScript, api.CLocked, 0, -1, math.MaxInt} {
		for ahead := range 10 {
			w := world()
			x := writer(t, w, api.GV4)
			r := x.Commit()
			for range ahead {
				r = x.Step(w)
			}
			var undo []api.Access
			switch {
			case ahead >= 5:
				undo = []api.Access{store(row1, 1, 0), store(row2, 49, 48), store(phase0, 2, 0)}
			case ahead >= 3:
				undo = []api.Access{store(row1, 1, 0), store(phase0, 2, 0)}
			case ahead >= 1:
				undo = []api.Access{store(phase0, 2, 0)}
			}
			if r != api.TBusy {
				t.Fatal(ahead, r)
			}
			does(t, w, x, x.Kill(cause), api.TDead, undo...)
			want := wrote(5, 0)
			want.decided, want.cause = false, cause
			tells(t, x, want)
			dead(t, w, x)
		}
	}
	// While it begins, reads, extends, or is asked nothing, there is nothing to undo.
	w := world()
	x := tl2.New(some, 0, api.GV1, 2, 3, 1000)
	nothing := func() int { return api.TDone }
	for _, ask := range []func() int{nothing, func() int { return x.Read(a) }, x.Extend, func() int { return x.Write(a, 1) }} {
		for ahead := range 3 {
			x.Begin()
			if ahead > 0 {
				x.Step(w)
				x.Watch(wordAt, 4)
				ask()
			}
			if ahead > 1 {
				x.Step(w)
			}
			if x.Kill(api.CScript) != api.TDead || x.Cause() != api.CScript || !slices.Equal(w.All(), begins()) {
				t.Error(ahead)
			}
			dead(t, w, x)
		}
	}
}

// TestUndoneAlone: what an attempt has taken is not put back by a later one.
func TestUndoneAlone(t *testing.T) {
	w := world()
	x := writer(t, w, api.GV1)
	steps(t, w, x, x.Commit())
	steps(t, w, x, x.Begin())
	if x.Kill(api.CScript) != api.TDead {
		t.Error("Kill")
	}
	steps(t, w, x, x.Begin())
	x.Watch(wordAt, 9)
	does(t, w, x, x.Read(c), api.TDead, load(row0, 80), load(c, 90), load(row0, 80), load(wordAt, 4))
	steps(t, w, x, x.Begin())
	x.Watch(wordAt, 9)
	does(t, w, x, x.Commit(), api.TDead, store(phase0, 0, 2), load(wordAt, 4), store(phase0, 2, 0))
}

// TestSets: what is answered is the caller's own.
func TestSets(t *testing.T) {
	w := world()
	x := writer(t, w, api.GV1)
	rows, words := x.Sets()
	for i := range rows {
		rows[i] = -7
	}
	for i := range words {
		words[i] = api.Word{At: -7, Val: -7}
	}
	want := wrote(5, 0)
	want.decided = false
	tells(t, x, want)
	steps(t, w, x, x.Commit())
	tells(t, x, wrote(6, 6))
}

// TestExample: Begin, Read of a place, two watched: six accesses.
func TestExample(t *testing.T) {
	w := world()
	x := tl2.New(some, 0, api.GV1, 1, 0, 1)
	first, _ := steps(t, w, x, x.Begin())
	x.Watch(wordAt, 4)
	x.Watch(countAt, 64)
	then, r := steps(t, w, x, x.Read(a))
	if len(first)+len(then) != 6 || r != api.TDone {
		t.Error(first, then, r)
	}
}
