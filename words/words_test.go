package words_test

import (
	"math"
	"slices"
	"testing"

	"syncope/api"
	"syncope/place"
	"syncope/words"
)

// some is a map of a few of each; least and most are those at the limits.
var (
	some  = place.Map{Stripes: 3, Locks: 2, Threads: 2, Conds: 1, Data: 4}
	least = place.Map{Stripes: 1, Threads: 1}
	most  = place.Map{Stripes: api.MaxStripes, Locks: api.MaxLocks, Threads: api.MaxThreads, Conds: api.MaxConds, Data: api.MaxData}
)

// maps is some that may be, with each number of locks, and some that may not.
func maps() []place.Map {
	list := []place.Map{some, least, most, {}, {Stripes: -1, Locks: 1, Threads: 1}, {Locks: 1, Threads: 1}, {Stripes: 1, Locks: 1}, {Stripes: 1, Locks: api.MaxLocks + 1, Threads: 1}, {Stripes: 1, Locks: -1, Threads: 1}, {Stripes: 1, Locks: 1, Threads: 1, Data: api.MaxData + 1}, {Stripes: 1, Locks: 1, Threads: 1, Conds: -1}}
	for locks := range api.MaxLocks + 1 {
		list = append(list, place.Map{Stripes: 1, Locks: locks, Threads: 1}, place.Map{Stripes: 16, Locks: locks, Threads: 4, Conds: 4, Data: 32})
	}
	return list
}

// locks is those that there may be, and some that are none.
func locks() []int {
	return []int{math.MinInt, -1 << 32, -6, -2, -1, 0, 1, 2, 3, 4, 5, 6, 64, 1 << 32, 1<<32 + 1, 1 << 61, math.MaxInt}
}

// is tells whether a map may be, and has that lock.
func is(m place.Map, lock int) bool {
	return place.May(m) && lock >= 0 && lock < m.Locks
}

// flags is all that two of them may say.
var flags = [][2]bool{{false, false}, {false, true}, {true, false}, {true, true}}

// 17.1

// TestExamples are the document's, and one of each kind by hand: lock 1's words begin at 2 + 3 + 6.
func TestExamples(t *testing.T) {
	if !words.Held(some, 1, place.Lock(some, 1, place.Word), 3) {
		t.Error("Held of a Word of 3")
	}
	if got := words.Watched(some, 1, true, false); !slices.Equal(got, []int{15, 16}) {
		t.Error(got)
	}
	if at, by := words.Mark(some, 1, true, false); at != 16 || by != 65 {
		t.Error(at, by)
	}
}

func TestWatched(t *testing.T) {
	for _, m := range maps() {
		for _, lock := range locks() {
			for _, f := range flags {
				rw, read := f[0], f[1]
				var want []int
				if is(m, lock) {
					want = append(want, place.Lock(m, lock, place.Word))
					if rw && !read {
						want = append(want, place.Lock(m, lock, place.Count))
					}
				}
				if got := words.Watched(m, lock, rw, read); !slices.Equal(got, want) {
					t.Errorf("Watched(%v, %d, %v, %v) = %v, not %v", m, lock, rw, read, got, want)
				}
			}
		}
	}
}

// TestWatchedIsTheCallersOwn: what is written into an answer is in none that comes behind.
func TestWatchedIsTheCallersOwn(t *testing.T) {
	first := words.Watched(some, 0, true, false)
	first[0], first[1] = -5, -5
	second := words.Watched(some, 0, true, false)
	if want := []int{place.Lock(some, 0, place.Word), place.Lock(some, 0, place.Count)}; !slices.Equal(second, want) {
		t.Error(second)
	}
}

// values is some that a word may hold: of each of some that are multiples of 64 all that the lowest six bits say.
func values() []int64 {
	list := []int64{math.MaxInt64 - 1, math.MaxInt64}
	for _, high := range []int64{math.MinInt64, -1 << 32, -128, -64, 0, 64, 128, 1 << 31, 1 << 32, 1 << 62} {
		for low := range int64(64) {
			list = append(list, high+low)
		}
	}
	return list
}

// places is all that a map has, and some that are none.
func places(m place.Map) []int {
	list := []int{math.MinInt, -1 << 32, -2, -1, place.Size(m), place.Size(m) + 1, 1 << 32, 1<<32 + 15, math.MaxInt}
	for at := range place.Size(m) {
		list = append(list, at)
	}
	return list
}

// below is the lowest part of a value by whole numbers: what is above the next multiple of n downwards.
func below(val, n int64) int64 { return ((val % n) + n) % n }

func TestHeld(t *testing.T) {
	for _, m := range maps() {
		for _, lock := range locks() {
			for _, at := range places(m) {
				for _, val := range values() {
					want := is(m, lock) &&
						(at == place.Lock(m, lock, place.Word) && below(val, 2) == 1 ||
							at == place.Lock(m, lock, place.Count) && below(val, 64) != 0)
					if got := words.Held(m, lock, at, val); got != want {
						t.Fatalf("Held(%v, %d, %d, %d) = %v", m, lock, at, val, got)
					}
				}
			}
		}
	}
}

func TestMark(t *testing.T) {
	for _, m := range maps() {
		for _, lock := range locks() {
			for _, f := range flags {
				read, leave := f[0], f[1]
				wantAt, wantBy := -1, int64(0)
				switch {
				case !is(m, lock):
				case !read:
					wantAt, wantBy = place.Lock(m, lock, place.Word), 1
				case leave:
					wantAt, wantBy = place.Lock(m, lock, place.Count), -1
				default:
					wantAt, wantBy = place.Lock(m, lock, place.Count), 65
				}
				if at, by := words.Mark(m, lock, read, leave); at != wantAt || by != wantBy {
					t.Errorf("Mark(%v, %d, %v, %v) = %d, %d, not %d, %d", m, lock, read, leave, at, by, wantAt, wantBy)
				}
			}
		}
	}
}
