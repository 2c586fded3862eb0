package epoch_test

import (
	"math"
	"slices"
	"testing"

	"syncope/api"
	"syncope/epoch"
	"syncope/mem"
	"syncope/place"
)

// some is a map of a few of each; one has a single thread, four has four and nothing else.
var (
	some = place.Map{Stripes: 3, Locks: 2, Threads: 3, Conds: 1, Data: 4}
	one  = place.Map{Stripes: 1, Threads: 1}
	four = place.Map{Stripes: 1, Threads: 4}
)

// maps is some that may be, with each number of threads.
func maps() []place.Map {
	list := []place.Map{some, one, four, {Stripes: api.MaxStripes, Locks: api.MaxLocks, Threads: api.MaxThreads, Conds: api.MaxConds, Data: api.MaxData}}
	for threads := 1; threads <= api.MaxThreads; threads++ {
		list = append(list, place.Map{Stripes: 2, Locks: 1, Threads: threads, Data: 3})
	}
	return list
}

// badMaps is maps that may not be.
func badMaps() []place.Map {
	list := []place.Map{{}, {Stripes: 1}, {Threads: 1}}
	for _, n := range []int{math.MinInt, -1, 41, math.MaxInt} {
		list = append(list,
			place.Map{Stripes: n, Locks: 2, Threads: 2},
			place.Map{Stripes: 1, Locks: n, Threads: 2},
			place.Map{Stripes: 1, Locks: 2, Threads: n},
			place.Map{Stripes: 1, Locks: 2, Threads: 2, Conds: n},
			place.Map{Stripes: 1, Locks: 2, Threads: 2, Data: n})
	}
	return list
}

// wild is numbers of threads, kinds, States, and of what is none of these.
func wild() []int {
	list := []int{math.MinInt, math.MinInt + 1, -1 << 32, -3, 255, 256, 257, 258, 1 << 32, 1<<32 + 1, 1<<32 + 2, math.MaxInt - 1, math.MaxInt}
	for n := -2; n <= 9; n++ {
		list = append(list, n)
	}
	return list
}

// values is what a word may hold, and Seen be: even and odd ones, and the ends.
func values() []int64 {
	return []int64{math.MinInt64, math.MinInt64 + 1, -1 << 32, -3, -2, -1, 0, 1, 2, 3, 4, 5, 255, 256, 258, 1 << 32, 1<<32 + 1, 1<<32 + 2, math.MaxInt64 - 1, math.MaxInt64}
}

// others is the words of a map, each another one; all are odd, and none is 2.
func others(m place.Map) []int64 {
	words := make([]int64, place.Size(m))
	for a := range words {
		words[a] = int64(1001 + 2*a)
	}
	return words
}

// does fails the test, unless Step of that wait is answered so, with a Load at that place alone (-1: with no access), at a memory of these words.
func does(t *testing.T, m place.Map, words []int64, x, want epoch.Wait, at int) {
	t.Helper()
	w := mem.New(words...)
	got := epoch.Step(m, w, x)
	steps, last := 0, api.Access{}
	if at >= 0 {
		steps, last = 1, api.Access{Kind: api.ALoad, At: at, Val: words[at], Saw: words[at], Done: true}
	}
	if got != want {
		t.Fatalf("%v: Step of %v = %v, not %v", m, x, got, want)
	}
	if w.Last() != last || w.Steps() != steps {
		t.Fatalf("%v: Step of %v: %d accesses, the last one %v, not %v", m, x, w.Steps(), w.Last(), last)
	}
	if !slices.Equal(w.All(), words) {
		t.Fatalf("%v: Step of %v leaves %v, not %v", m, x, w.All(), words)
	}
}

// behind is the first number above at that is not thread.
func behind(at, thread int) int {
	for _, n := range []int{at + 1, at + 2} {
		if n != thread {
			return n
		}
	}
	return -1
}

// each goes through all maps, with each thread that a wait may be at, of each that may wait (also of one that the map has not), each of the values at that thread's part, and each as Seen.
func each(part int, do func(m place.Map, words []int64, x epoch.Wait, at int)) {
	for _, m := range maps() {
		for at := range m.Threads {
			words, spot := others(m), place.Thread(m, at, part)
			for _, stands := range values() {
				words[spot] = stands
				for _, thread := range []int{0, 1, 2, 3, 4, 1 << 32, math.MaxInt} {
					for _, seen := range values() {
						do(m, words, epoch.Wait{Thread: thread, At: at, Seen: seen}, spot)
					}
				}
			}
		}
	}
}

// 18.1, of what is under way

func TestNames(t *testing.T) {
	if epoch.Calm != 1 || epoch.Quiet != 2 {
		t.Error(epoch.Calm, epoch.Quiet)
	}
}

// TestStart: it is the same of a kind that is none, and of a map that may not be.
func TestStart(t *testing.T) {
	for _, m := range append(maps(), badMaps()...) {
		for _, kind := range wild() {
			for _, thread := range wild() {
				want := epoch.Wait{Kind: kind, Thread: thread}
				if thread == 0 {
					want.At = 1
				}
				if got := epoch.Start(m, kind, thread); got != want {
					t.Fatalf("Start(%v, %d, %d) = %v, not %v", m, kind, thread, got, want)
				}
			}
		}
	}
}

// TestOnlyThread: the chapter's example; it has nobody to look at.
func TestOnlyThread(t *testing.T) {
	for _, kind := range []int{epoch.Calm, epoch.Quiet} {
		x := epoch.Start(one, kind, 0)
		if !epoch.Done(one, x) {
			t.Errorf("%v is not done", x)
		}
		does(t, one, others(one), x, x, -1)
	}
}

// TestCalm: of a 2 it stays all that it was, of all else it goes on, with State and Seen 0.
func TestCalm(t *testing.T) {
	each(place.Phase, func(m place.Map, words []int64, x epoch.Wait, at int) {
		x.Kind = epoch.Calm
		want := x
		if words[at] != 2 {
			want.At, want.Seen = behind(x.At, x.Thread), 0
		}
		does(t, m, words, x, want, at)
	})
}

// TestQuietLooks: of an even Epoch it goes on, an odd one it has seen.
func TestQuietLooks(t *testing.T) {
	each(place.Epoch, func(m place.Map, words []int64, x epoch.Wait, at int) {
		x.Kind = epoch.Quiet
		want := x
		if words[at]%2 == 0 {
			want.At, want.Seen = behind(x.At, x.Thread), 0
		} else {
			want.State, want.Seen = 1, words[at]
		}
		does(t, m, words, x, want, at)
	})
}

// TestQuietWaits: as long as what it has seen stands there, be that even or odd; another attempt it does not wait for.
func TestQuietWaits(t *testing.T) {
	each(place.Epoch, func(m place.Map, words []int64, x epoch.Wait, at int) {
		x.Kind, x.State = epoch.Quiet, 1
		want := x
		if words[at] != x.Seen {
			want.At, want.State, want.Seen = behind(x.At, x.Thread), 0, 0
		}
		does(t, m, words, x, want, at)
	})
}

// 18.1, whole waits

// walks fails the test, unless a wait goes on by these steps, a Load each, one behind the other.
func walks(t *testing.T, m place.Map, w *mem.Mem, x epoch.Wait, list ...epoch.Wait) epoch.Wait {
	t.Helper()
	for i, want := range list {
		ahead, steps := x, w.Steps()
		if epoch.Done(m, ahead) {
			t.Errorf("step %d: %v is done", i, ahead)
		}
		x = epoch.Step(m, w, ahead)
		if x != want || w.Steps() != steps+1 || w.Last().Kind != api.ALoad {
			t.Errorf("step %d: Step of %v = %v, not %v, by %d accesses, the last one %v", i, ahead, x, want, w.Steps()-steps, w.Last())
		}
	}
	return x
}

// empty is a memory of a map in which nothing was done.
func empty(m place.Map) *mem.Mem { return mem.New(make([]int64, place.Size(m))...) }

// TestNobodyIsAtIt: a wait looks once at each but its own thread, and is over.
func TestNobodyIsAtIt(t *testing.T) {
	for _, kind := range []int{epoch.Calm, epoch.Quiet} {
		for _, c := range []struct{ thread, first, second, third, end int }{{0, 1, 2, 3, 4}, {1, 0, 2, 3, 4}, {2, 0, 1, 3, 4}, {3, 0, 1, 2, 4}} {
			w, x := empty(four), epoch.Wait{Kind: kind, Thread: c.thread, At: c.first}
			second, third, end := x, x, x
			second.At, third.At, end.At = c.second, c.third, c.end
			if got := epoch.Start(four, kind, c.thread); got != x {
				t.Errorf("Start(%d, %d) = %v, not %v", kind, c.thread, got, x)
			}
			last := walks(t, four, w, x, second, third, end)
			if !epoch.Done(four, last) || epoch.Step(four, w, last) != last || w.Steps() != 3 {
				t.Errorf("kind %d, thread %d: %v by %d accesses", kind, c.thread, last, w.Steps())
			}
		}
	}
}

// TestCalmWaits: for one who commits, whoever else has an attempt, and be it itself who does.
func TestCalmWaits(t *testing.T) {
	w := empty(some)
	for thread := range some.Threads {
		w.Store(place.Thread(some, thread, place.Epoch), 7)
		w.Store(place.Thread(some, thread, place.Phase), 1)
	}
	w.Store(place.Thread(some, 0, place.Phase), 2)
	w.Store(place.Thread(some, 1, place.Phase), 2)
	x := epoch.Start(some, epoch.Calm, 1)
	at2, at3 := x, x
	at2.At, at3.At = 2, 3
	x = walks(t, some, w, x, x, x)
	w.Store(place.Thread(some, 0, place.Phase), 0)
	x = walks(t, some, w, x, at2)
	w.Store(place.Thread(some, 0, place.Phase), 2)
	w.Store(place.Thread(some, 2, place.Phase), 2)
	x = walks(t, some, w, x, at2)
	w.Store(place.Thread(some, 2, place.Phase), 3)
	if x = walks(t, some, w, x, at3); !epoch.Done(some, x) {
		t.Error(x)
	}
}

// TestQuietSees: of each thread the attempt that it has at the first look, not those behind it, and not its own.
func TestQuietSees(t *testing.T) {
	w := empty(some)
	for thread, n := range []int64{5, 9, -3} {
		w.Store(place.Thread(some, thread, place.Epoch), n)
		w.Store(place.Thread(some, thread, place.Phase), 2)
	}
	x := epoch.Start(some, epoch.Quiet, 1)
	sees0, at2, sees2, end := x, x, x, x
	sees0.State, sees0.Seen = 1, 5
	at2.At = 2
	sees2.At, sees2.State, sees2.Seen = 2, 1, -3
	end.At = 3
	x = walks(t, some, w, x, sees0, sees0, sees0)
	w.Store(place.Thread(some, 0, place.Epoch), 7)
	x = walks(t, some, w, x, at2, sees2, sees2)
	w.Store(place.Thread(some, 2, place.Epoch), -2)
	if x = walks(t, some, w, x, end); !epoch.Done(some, x) {
		t.Error(x)
	}
}

// 18.1, of what is done, and of what is none

// is tells whether there is a kind of that number.
func is(kind int) bool { return kind == epoch.Calm || kind == epoch.Quiet }

// TestDone: neither the thread, nor the State, nor Seen tells, and an At below 0 is not beyond the threads.
func TestDone(t *testing.T) {
	for _, m := range append(maps(), badMaps()...) {
		for _, kind := range wild() {
			for _, at := range wild() {
				for _, thread := range []int{math.MinInt, -1, 0, 1, at, at + 1, math.MaxInt} {
					for _, state := range []int{-1, 0, 1, 2, 9} {
						want := !is(kind) || !place.May(m) || at >= m.Threads
						x := epoch.Wait{Kind: kind, Thread: thread, At: at, State: state, Seen: int64(at)}
						if got := epoch.Done(m, x); got != want {
							t.Fatalf("Done(%v, %v) = %v", m, x, got)
						}
					}
				}
			}
		}
	}
}

// onWay tells whether a Step of a wait makes an access.
func onWay(m place.Map, x epoch.Wait) bool {
	return x.At >= 0 && x.At < m.Threads && x.Thread >= 0 && (x.State == 0 && is(x.Kind) || x.State == 1 && x.Kind == epoch.Quiet)
}

func TestNothingToDo(t *testing.T) {
	for _, m := range maps() {
		full, zero := others(m), make([]int64, place.Size(m))
		for _, kind := range wild() {
			for _, state := range wild() {
				for _, at := range wild() {
					for _, thread := range []int{math.MinInt, -1 << 32, -1, 0, 1, 3, math.MaxInt} {
						x := epoch.Wait{Kind: kind, Thread: thread, At: at, State: state, Seen: 5}
						if !onWay(m, x) {
							does(t, m, full, x, x, -1)
							does(t, m, zero, x, x, -1)
						}
					}
				}
			}
		}
	}
}

// staysIn fails the test, unless each wait that is under way is answered as it is, without an access.
func staysIn(t *testing.T, m place.Map, words []int64) {
	t.Helper()
	for at := range 4 {
		for _, thread := range []int{0, 1, 4} {
			for _, x := range []epoch.Wait{{Kind: epoch.Calm}, {Kind: epoch.Quiet}, {Kind: epoch.Quiet, State: 1, Seen: 5}} {
				x.At, x.Thread = at, thread
				does(t, m, words, x, x, -1)
			}
		}
	}
}

func TestNoSuchMap(t *testing.T) {
	for _, m := range badMaps() {
		staysIn(t, m, slices.Repeat([]int64{1}, api.MaxWords))
		staysIn(t, m, make([]int64, api.MaxWords))
		staysIn(t, m, nil)
	}
}

// TestNoMemory: one that is shorter than the map is none, though the words that are looked at may be there.
func TestNoMemory(t *testing.T) {
	for _, m := range maps() {
		words := others(m)
		for _, short := range [][]int64{nil, {0}, words[:len(words)/2], words[1:]} {
			staysIn(t, m, short)
		}
		for _, w := range []*mem.Mem{nil, {}} {
			for _, kind := range []int{epoch.Calm, epoch.Quiet} {
				x := epoch.Wait{Kind: kind, Thread: 4}
				if got := epoch.Step(m, w, x); got != x || w.Steps() != 0 {
					t.Errorf("%v: Step of %v without words = %v", m, x, got)
				}
			}
		}
	}
}

// TestMoreMemory: one that has more words than the map is one.
func TestMoreMemory(t *testing.T) {
	for _, m := range maps() {
		for _, kind := range []int{epoch.Calm, epoch.Quiet} {
			w := mem.New(make([]int64, place.Size(m)+1)...)
			x := epoch.Start(m, kind, 0)
			for range m.Threads - 1 {
				x = epoch.Step(m, w, x)
			}
			if !epoch.Done(m, x) || w.Steps() != m.Threads-1 {
				t.Errorf("%v: kind %d: %v by %d accesses", m, kind, x, w.Steps())
			}
		}
	}
}
