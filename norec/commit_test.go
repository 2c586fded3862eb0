package norec_test

import (
	"math"
	"slices"
	"testing"

	"syncope/api"
	"syncope/mem"
	"syncope/norec"
	"syncope/place"
)

// 16.2

// TestCommitReads: one that has written nothing looks at what is watched, and at nothing else.
func TestCommitReads(t *testing.T) {
	w := world()
	x := begun(t, w)
	steps(t, w, x, x.Read(a))
	w.Store(a, 71)
	w.Store(seqAt, 7)
	r := x.Commit()
	if x.Decided() {
		t.Error("decided ahead of its first access")
	}
	if r = x.Step(w); r != api.TBusy || !x.Decided() || w.Last() != store(phase0, 0, 2) {
		t.Error(r, w.Last())
	}
	does(t, w, x, r, api.TDone, store(phase0, 2, 0))
	tells(t, x, told{value: 70, stamp: 4, decided: true, places: []int{a}})
	dead(t, w, x)

	w.Store(seqAt, 8)
	x = begun(t, w)
	x.Watch(wordAt, 6)
	x.Watch(countAt, 64)
	r = x.Commit()
	busy(t, w, x, store(phase0, 0, 2), load(wordAt, 6))
	if x.Decided() {
		t.Error("decided ahead of the last that is watched")
	}
	busy(t, w, x, load(countAt, 64))
	tells(t, x, told{stamp: 8, decided: true})
	does(t, w, x, r, api.TDone, store(phase0, 2, 0))
	x = begun(t, w)
	x.Watch(wordAt, 6)
	x.Watch(countAt, 65)
	x.Watch(c, 90)
	does(t, w, x, x.Commit(), api.TDead, store(phase0, 0, 2), load(wordAt, 6), load(countAt, 64), store(phase0, 2, 0))
	tells(t, x, told{stamp: 8, cause: api.CWatch})
	dead(t, w, x)
}

// writer is thread 0's attempt that has read c and a, watches Count and Word, and is to write c, b and a.
func writer(t *testing.T, w *mem.Mem) *norec.Tx {
	t.Helper()
	x := reader(t, w)
	x.Write(c, 1)
	x.Write(b, 2)
	x.Write(a, 3)
	return x
}

// wrote is what a writer tells when it is decided.
func wrote(stamp, made int64) told {
	return told{value: 70, stamp: stamp, made: made, decided: true, places: []int{c, a}, writes: []api.Word{{At: c, Val: 1}, {At: b, Val: 2}, {At: a, Val: 3}}}
}

// failed is what a writer tells when it is aborted.
func failed(stamp int64, cause int) told {
	want := wrote(stamp, 0)
	want.decided, want.cause = false, cause
	return want
}

// Its accesses: those that look whether it may be committed; that look through all of it; that lay down what is written.
func asks(now int64) []api.Access {
	return []api.Access{swap(seqAt, now, now, now+1), load(countAt, 64), load(wordAt, 6)}
}

func looks(now int64) []api.Access {
	return []api.Access{seq(now), load(c, 90), load(a, 70), seq(now), load(countAt, 64), load(wordAt, 6)}
}

func lays(made int64) []api.Access {
	return []api.Access{store(c, 90, 1), store(b, 80, 2), store(a, 70, 3), store(seqAt, made-1, made), store(phase0, 2, 0)}
}

var (
	enters = store(phase0, 0, 2)
	leaves = store(phase0, 2, 0)
)

func TestCommit(t *testing.T) {
	w := world()
	x := writer(t, w)
	r := x.Commit()
	busy(t, w, x, enters)
	tells(t, x, failed(4, 0))
	busy(t, w, x, swap(seqAt, 4, 4, 5))
	want := failed(4, 0)
	want.made = 6
	tells(t, x, want)
	busy(t, w, x, load(countAt, 64))
	tells(t, x, want)
	want.decided = true
	for _, access := range append([]api.Access{load(wordAt, 6)}, lays(6)[:4]...) {
		busy(t, w, x, access)
		tells(t, x, want)
	}
	does(t, w, x, r, api.TDone, leaves)
	tells(t, x, wrote(6, 6))
	dead(t, w, x)
	words := begins()
	words[seqAt], words[c], words[b], words[a] = 6, 1, 2, 3
	if !slices.Equal(w.All(), words) {
		t.Error(w.All())
	}
}

// TestCommitOutrun: where another one has committed since its Stamp, it is looked through, and then it tries once more, as often as that is so.
func TestCommitOutrun(t *testing.T) {
	for _, now := range []int64{6, 2, -8, math.MaxInt64 - 3} {
		w := world()
		x := norec.New(some, 0, 2, 3, math.MaxInt64)
		steps(t, w, x, x.Begin())
		steps(t, w, x, x.Read(c))
		x.Write(b, 2)
		w.Store(seqAt, now)
		does(t, w, x, x.Commit(), api.TDone, enters, swap(seqAt, now, 4, 5), seq(now), load(c, 90), seq(now),
			swap(seqAt, now, now, now+1), store(b, 80, 2), store(seqAt, now+1, now+2), leaves)
		tells(t, x, told{value: 90, stamp: now + 2, made: now + 2, decided: true, places: []int{c}, writes: []api.Word{{At: b, Val: 2}}})
	}
	w := world()
	x := writer(t, w)
	w.Store(seqAt, 5)
	r := x.Commit()
	busy(t, w, x, enters, swap(seqAt, 5, 4, 5), seq(5), seq(5))
	tells(t, x, failed(4, 0))
	w.Store(seqAt, 6)
	busy(t, w, x, looks(6)[:3]...)
	w.Store(seqAt, 8)
	busy(t, w, x, seq(8))
	busy(t, w, x, looks(8)...)
	tells(t, x, failed(8, 0))
	w.Store(seqAt, 11)
	busy(t, w, x, swap(seqAt, 11, 8, 9), seq(11))
	w.Store(seqAt, 10)
	busy(t, w, x, looks(10)...)
	tells(t, x, failed(10, 0))
	does(t, w, x, r, api.TDone, append(asks(10), lays(12)...)...)
	tells(t, x, wrote(12, 12))
}

// TestCommitBlind: one that has read nothing, and watches nothing, is outrun, too.
func TestCommitBlind(t *testing.T) {
	w := world()
	x := begun(t, w)
	x.Write(b, 2)
	w.Store(seqAt, 8)
	does(t, w, x, x.Commit(), api.TDone, enters, swap(seqAt, 8, 4, 5), seq(8), seq(8), swap(seqAt, 8, 8, 9), store(b, 80, 2), store(seqAt, 9, 10), leaves)
	tells(t, x, told{stamp: 10, made: 10, decided: true, writes: []api.Word{{At: b, Val: 2}}})
}

// TestCommitOfThread: each thread of each map has its own Phase.
func TestCommitOfThread(t *testing.T) {
	for _, m := range []place.Map{some, {Stripes: 1, Threads: 1, Data: 1}, {Stripes: 16, Locks: 4, Threads: 4, Conds: 4, Data: 32}} {
		for thread := range m.Threads {
			w := mem.New(make([]int64, place.Size(m))...)
			x := norec.New(m, thread, 1, 1, 2)
			steps(t, w, x, x.Begin())
			at := place.Data(m, m.Data-1)
			x.Write(at, 7)
			phase := place.Thread(m, thread, place.Phase)
			does(t, w, x, x.Commit(), api.TDone, store(phase, 0, 2), swap(seqAt, 0, 0, 1), store(at, 0, 7), store(seqAt, 1, 2), store(phase, 2, 0))
		}
	}
}

// TestDecided: with the last access of a to c, whichever that is; from then on nothing aborts it.
func TestDecided(t *testing.T) {
	for watched := range 4 {
		w := world()
		x := begun(t, w)
		steps(t, w, x, x.Read(a))
		for range watched {
			x.Watch(wordAt, 6)
		}
		x.Write(b, 2)
		r := x.Commit()
		for i := range 2 + watched {
			if x.Decided() || r != api.TBusy {
				t.Fatal(watched, i, r)
			}
			r = x.Step(w)
		}
		if !x.Decided() || r != api.TBusy || x.Made() != 6 || x.Stamp() != 4 {
			t.Fatal(watched, r)
		}
		x.Watch(c, 0)
		w.Store(wordAt, 7)
		w.Store(a, 71)
		for _, access := range []api.Access{store(b, 80, 2), store(seqAt, 5, 6)} {
			if x.Kill(api.CScript) != api.TDone || x.Cause() != 0 || x.Read(a) != api.TDead || x.Begin() != api.TDead {
				t.Fatal(watched)
			}
			busy(t, w, x, access)
		}
		if x.Kill(api.CScript) != api.TDone || x.Stamp() != 4 {
			t.Fatal(watched)
		}
		does(t, w, x, r, api.TDone, leaves)
		if !x.Decided() || x.Stamp() != 6 || x.Kill(api.CScript) != api.TDone {
			t.Fatal(watched)
		}
	}
}

// TestCommitAborts: each word that keeps a writer from being committed, the access that finds it, and how it is undone.
func TestCommitAborts(t *testing.T) {
	back := store(seqAt, 5, 4)
	for _, z := range []struct {
		name  string
		ahead int // behind how many accesses it comes to stand there
		at    int
		val   int64
		outs  bool // and another one commits then
		cause int
		more  []api.Access // that it makes behind these
	}{
		{"the first that is watched", 0, countAt, 65, false, api.CWatch, []api.Access{enters, swap(seqAt, 4, 4, 5), load(countAt, 65), back, leaves}},
		{"the second that is watched", 0, wordAt, 7, false, api.CWatch, []api.Access{enters, swap(seqAt, 4, 4, 5), load(countAt, 64), load(wordAt, 7), back, leaves}},
		{"the second that is watched, at last", 3, wordAt, 8, false, api.CWatch, []api.Access{load(wordAt, 8), back, leaves}},
		{"outrun, and the first that was read", 1, c, 0, true, api.CStale, []api.Access{swap(seqAt, 8, 4, 5), seq(8), load(c, 0), leaves}},
		{"outrun, and the second that was read", 1, a, 7, true, api.CStale, []api.Access{swap(seqAt, 8, 4, 5), seq(8), load(c, 90), load(a, 7), leaves}},
		{"outrun, and the first that is watched", 1, countAt, 0, true, api.CWatch, []api.Access{swap(seqAt, 8, 4, 5), seq(8), load(c, 90), load(a, 70), seq(8), load(countAt, 0), leaves}},
		{"outrun, and the second that is watched", 1, wordAt, 7, true, api.CWatch, []api.Access{swap(seqAt, 8, 4, 5), seq(8), load(c, 90), load(a, 70), seq(8), load(countAt, 64), load(wordAt, 7), leaves}},
	} {
		w := world()
		x := writer(t, w)
		r := x.Commit()
		for range z.ahead {
			r = x.Step(w)
		}
		w.Store(z.at, z.val)
		words := begins()
		words[z.at] = z.val
		if z.outs {
			w.Store(seqAt, 8)
			words[seqAt] = 8
		}
		does(t, w, x, r, api.TDead, z.more...)
		tells(t, x, failed(4, z.cause))
		dead(t, w, x)
		if !slices.Equal(w.All(), words) {
			t.Errorf("%s: %v, not %v", z.name, w.All(), words)
		}
	}
}

// TestCommitUnread: what it has not read it doesn't look at, and what is turned without a new number it doesn't see.
func TestCommitUnread(t *testing.T) {
	w := world()
	x := writer(t, w)
	w.Store(a, 71)
	w.Store(b, 81)
	_, r := steps(t, w, x, x.Commit())
	if tells(t, x, wrote(6, 6)); r != api.TDone {
		t.Error(r)
	}
}

// TestUndone: while it is undone, Made is 0 and Cause is told, and it is asked in vain, begun anew too.
func TestUndone(t *testing.T) {
	w := world()
	x := writer(t, w)
	x.Watch(b, 81)
	r := x.Commit()
	for range 4 {
		if r != api.TBusy || x.Cause() != 0 {
			t.Fatal(r, x.Cause())
		}
		r = x.Step(w)
	}
	if x.Made() != 6 {
		t.Fatal(x.Made())
	}
	busy(t, w, x, load(b, 80))
	for _, access := range []api.Access{store(seqAt, 5, 4), leaves} {
		tells(t, x, failed(4, api.CWatch))
		if r != api.TBusy || x.Begin() != api.TDead || x.Kill(api.CScript) != api.TDone || x.Read(c) != api.TDead || x.Write(a, 1) != api.TDead || x.Commit() != api.TDead || x.Extend() != api.TDead || x.Step(nil) != api.TDone {
			t.Fatal(r)
		}
		x.Watch(c, 9)
		tells(t, x, failed(4, api.CWatch))
		if r = x.Step(w); w.Last() != access {
			t.Fatal(w.Last())
		}
	}
	if r != api.TDead {
		t.Fatal(r)
	}
	tells(t, x, failed(4, api.CWatch))
	dead(t, w, x)
}

// TestOver: a stamp above the most that there may be aborts it ahead of its Swap.
func TestOver(t *testing.T) {
	for _, z := range []struct {
		stands, top int64
		over        bool
	}{
		{4, 6, false}, {4, 5, true}, {4, 4, true}, {4, 0, true}, {4, math.MaxInt64, false}, {-10, -8, false}, {-10, -9, true}, {4, math.MinInt64, true},
		{math.MaxInt64 - 3, math.MaxInt64 - 1, false}, {math.MaxInt64 - 3, math.MaxInt64 - 2, true}, {math.MaxInt64 - 1, math.MinInt64, false}, {math.MaxInt64 - 1, 0, false},
	} {
		w := mem.New(make([]int64, size)...)
		w.Store(seqAt, z.stands)
		x := norec.New(some, 1, 1, 1, z.top)
		steps(t, w, x, x.Begin())
		x.Write(a, 7)
		made := z.stands + 2
		if z.over {
			does(t, w, x, x.Commit(), api.TDead, store(phase1, 0, 2), store(phase1, 2, 0))
			tells(t, x, told{stamp: z.stands, cause: api.COver, writes: []api.Word{{At: a, Val: 7}}})
			dead(t, w, x)
			continue
		}
		does(t, w, x, x.Commit(), api.TDone, store(phase1, 0, 2), swap(seqAt, z.stands, z.stands, made-1), store(a, 0, 7), store(seqAt, made-1, made), store(phase1, 2, 0))
		tells(t, x, told{stamp: made, made: made, decided: true, writes: []api.Word{{At: a, Val: 7}}})
	}
	// One that writes nothing makes none.
	w := world()
	x := norec.New(some, 0, 1, 1, 0)
	steps(t, w, x, x.Begin())
	does(t, w, x, x.Commit(), api.TDone, enters, leaves)
}

// TestOverAtOnce: that it is over takes no access: it comes with the one ahead of it, and nothing is left to kill.
func TestOverAtOnce(t *testing.T) {
	w := world()
	x := norec.New(some, 0, 1, 1, 5)
	steps(t, w, x, x.Begin())
	x.Write(a, 7)
	r := x.Commit()
	busy(t, w, x, enters)
	tells(t, x, told{stamp: 4, cause: api.COver, writes: []api.Word{{At: a, Val: 7}}})
	if x.Kill(api.CScript) != api.TDone {
		t.Error("Kill")
	}
	does(t, w, x, r, api.TDead, leaves)
	tells(t, x, told{stamp: 4, cause: api.COver, writes: []api.Word{{At: a, Val: 7}}})
}

// TestOverLater: it may be over by what another one has made, too.
func TestOverLater(t *testing.T) {
	w := world()
	x := norec.New(some, 0, 1, 1, 7)
	steps(t, w, x, x.Begin())
	steps(t, w, x, x.Read(c))
	x.Watch(wordAt, 6)
	x.Write(a, 7)
	w.Store(seqAt, 6)
	r := x.Commit()
	busy(t, w, x, enters, swap(seqAt, 6, 4, 5), seq(6), load(c, 90), seq(6), load(wordAt, 6))
	want := told{value: 90, stamp: 6, cause: api.COver, places: []int{c}, writes: []api.Word{{At: a, Val: 7}}}
	tells(t, x, want)
	does(t, w, x, r, api.TDead, leaves)
	tells(t, x, want)
	dead(t, w, x)
}

// TestWraps: behind the last even number comes the first one; a stamp of 0 is one.
func TestWraps(t *testing.T) {
	w := world()
	w.Store(seqAt, math.MaxInt64-1)
	x := norec.New(some, 0, 2, 1, 0)
	steps(t, w, x, x.Begin())
	x.Write(a, 7)
	does(t, w, x, x.Commit(), api.TDone, enters, swap(seqAt, math.MaxInt64-1, math.MaxInt64-1, math.MaxInt64), store(a, 70, 7), store(seqAt, math.MaxInt64, math.MinInt64), leaves)
	tells(t, x, told{stamp: math.MinInt64, made: math.MinInt64, decided: true, writes: []api.Word{{At: a, Val: 7}}})
	w = world()
	w.Store(seqAt, -2)
	steps(t, w, x, x.Begin())
	x.Write(a, 7)
	does(t, w, x, x.Commit(), api.TDone, enters, swap(seqAt, -2, -2, -1), store(a, 70, 7), store(seqAt, -1, 0), leaves)
	tells(t, x, told{decided: true, writes: []api.Word{{At: a, Val: 7}}})
	dead(t, w, x)
}

// TestKill: ahead of each access of each call, by any cause, 0 too.
func TestKill(t *testing.T) {
	for _, cause := range []int{api.CScript, api.CLocked, 0, -1, -2, math.MaxInt} {
		for _, outs := range []bool{false, true} {
			ways := slices.Concat([]api.Access{enters}, asks(4)[:2])
			if outs {
				ways = slices.Concat([]api.Access{enters, swap(seqAt, 6, 4, 5)}, looks(6), asks(6)[:2])
			}
			for ahead := range len(ways) + 1 {
				w := world()
				x := writer(t, w)
				stamp := int64(4)
				if outs {
					w.Store(seqAt, 6)
				}
				if r := x.Commit(); r != api.TBusy {
					t.Fatal(r)
				}
				if busy(t, w, x, ways[:ahead]...); ahead >= 8 {
					stamp = 6
				}
				var undo []api.Access
				if ahead >= len(ways)-1 {
					undo = append(undo, store(seqAt, stamp+1, stamp))
				}
				if ahead >= 1 {
					undo = append(undo, leaves)
				}
				does(t, w, x, x.Kill(cause), api.TDead, undo...)
				tells(t, x, failed(stamp, cause))
				dead(t, w, x)
			}
		}
	}
}

// TestKillReads: while it begins, reads, extends, or is asked nothing, there is nothing to undo, however often it looks.
func TestKillReads(t *testing.T) {
	w := world()
	x := norec.New(some, 0, 2, 3, 1000)
	nothing := func() int { return api.TDone }
	for _, ask := range []func() int{nothing, func() int { return x.Read(a) }, x.Extend, func() int { return x.Write(a, 1) }} {
		for ahead := range 8 {
			x.Begin()
			if ahead > 0 {
				x.Step(w)
				x.Watch(wordAt, 6)
				ask()
				w.Store(seqAt, 5)
			}
			for i := range ahead {
				if i == 3 {
					w.Store(seqAt, 6)
				}
				x.Step(w)
			}
			w.Store(seqAt, 4)
			if x.Kill(api.CScript) != api.TDead || x.Cause() != api.CScript || !slices.Equal(w.All(), begins()) {
				t.Error(ahead)
			}
			dead(t, w, x)
		}
	}
}

// TestUndoneAlone: what an attempt has turned is not put back by a later one.
func TestUndoneAlone(t *testing.T) {
	w := world()
	x := writer(t, w)
	steps(t, w, x, x.Commit())
	steps(t, w, x, x.Begin())
	if x.Kill(api.CScript) != api.TDead {
		t.Error("Kill")
	}
	steps(t, w, x, x.Begin())
	x.Watch(wordAt, 9)
	does(t, w, x, x.Read(c), api.TDead, load(c, 1), seq(6), load(wordAt, 6))
	steps(t, w, x, x.Begin())
	x.Watch(wordAt, 9)
	does(t, w, x, x.Commit(), api.TDead, enters, load(wordAt, 6), leaves)
}

// TestSets: what is answered is the caller's own.
func TestSets(t *testing.T) {
	w := world()
	x := writer(t, w)
	places, words := x.Sets()
	for i := range places {
		places[i] = -7
	}
	for i := range words {
		words[i] = api.Word{At: -7, Val: -7}
	}
	tells(t, x, failed(4, 0))
	steps(t, w, x, x.Commit())
	tells(t, x, wrote(6, 6))
}
