package stripe_test

import (
	"maps"
	"math"
	"math/big"
	"slices"
	"testing"

	"syncope/api"
	"syncope/place"
	"syncope/stripe"
)

// versions is some that there may be, and some that times 16 wrap.
func versions() []int64 {
	return []int64{
		math.MinInt64, math.MinInt64 + 1, -1<<60 - 1, -1 << 60, -1<<59 - 1, -1 << 59, -1<<59 + 1,
		-1 << 32, -257, -17, -16, -15, -2, -1, 0, 1, 2, 3, 4, 5, 14, 15, 16, 17, 255, 256, 1 << 31, 1 << 32, 1<<32 + 1,
		api.MaxClock - 1, api.MaxClock, api.MaxClock + 1,
		1<<59 - 1, 1 << 59, 1<<59 + 1, 1<<60 - 1, 1 << 60, 1<<60 + 1, math.MaxInt64 - 1, math.MaxInt64,
	}
}

// words is some words of a stripe: of each of some versions, with all that may stand in the lowest four bits.
func words() []int64 {
	var list []int64
	for _, v := range versions() {
		for low := range int64(16) {
			list = append(list, v&^15+low)
		}
	}
	return list
}

// threads is those that there may be, and some that are none.
func threads() []int {
	return []int{math.MinInt, -1 << 60, -1 << 32, -17, -16, -2, -1, 0, 1, 2, 3, 4, 5, 14, 15, 16, 17, 255, 256, 257, 1 << 32, 1<<32 + 1, 1<<60 + 1, math.MaxInt}
}

// parts is a word by 16, downwards, and what is left, as whole numbers have it.
func parts(x int64) (version, low int64) {
	q, r := new(big.Int).DivMod(big.NewInt(x), big.NewInt(16), new(big.Int))
	return q.Int64(), r.Int64()
}

// wrapped is a whole number as 64 bits keep it.
func wrapped(n *big.Int) int64 {
	full := new(big.Int).Lsh(big.NewInt(1), 64)
	return int64(new(big.Int).Mod(n, full).Uint64())
}

// 12.1

func TestFree(t *testing.T) {
	for _, v := range versions() {
		want := wrapped(new(big.Int).Mul(big.NewInt(v), big.NewInt(16)))
		if got := stripe.Free(v); got != want {
			t.Errorf("Free(%d) = %d, not %d", v, got, want)
		}
	}
}

func TestVersionAndHolder(t *testing.T) {
	for _, x := range words() {
		version, low := parts(x)
		if got := stripe.Version(x); got != version {
			t.Errorf("Version(%d) = %d, not %d", x, got, version)
		}
		if got := stripe.Holder(x); int64(got) != low-1 {
			t.Errorf("Holder(%d) = %d, not %d", x, got, low-1)
		}
	}
}

// TestTaken: whoever locked it ahead, and whatever stands in the four bits.
func TestTaken(t *testing.T) {
	for _, x := range words() {
		_, low := parts(x)
		for _, thread := range threads() {
			want := x
			if thread >= 0 && thread <= 3 {
				want = x - low + int64(thread) + 1
			}
			if got := stripe.Taken(x, thread); got != want {
				t.Errorf("Taken(%d, %d) = %d, not %d", x, thread, got, want)
			}
		}
	}
}

// TestExample: the chapter's.
func TestExample(t *testing.T) {
	x := stripe.Taken(stripe.Free(3), 1)
	if x != 50 || stripe.Version(x) != 3 || stripe.Holder(x) != 1 {
		t.Error(x, stripe.Version(x), stripe.Holder(x))
	}
}

// 12.2

func TestFresh(t *testing.T) {
	for _, x := range words() {
		version, low := parts(x)
		for _, stamp := range append(versions(), version-1, version, version+1) {
			want := api.CStale
			switch {
			case low != 0:
				want = api.CLocked
			case version <= stamp:
				want = 0
			}
			if got := stripe.Fresh(x, stamp); got != want {
				t.Errorf("Fresh(%d, %d) = %d, not %d", x, stamp, got, want)
			}
		}
	}
}

// TestFreshOfTaken: one that is locked is not fresh, whoever does, and however old it is.
func TestFreshOfTaken(t *testing.T) {
	for thread := range api.MaxThreads {
		for _, stamp := range []int64{math.MinInt64, 6, 7, 8, math.MaxInt64} {
			x := stripe.Taken(stripe.Free(7), thread)
			if got := stripe.Fresh(x, stamp); got != api.CLocked {
				t.Errorf("Fresh(%d, %d) = %d", x, stamp, got)
			}
		}
	}
}

// mapsThatMay is some maps that may be.
func mapsThatMay() []place.Map {
	var list []place.Map
	for stripes := 1; stripes <= api.MaxStripes; stripes++ {
		list = append(list,
			place.Map{Stripes: stripes, Threads: 1},
			place.Map{Stripes: stripes, Locks: 2, Threads: 3, Conds: 1, Data: 5},
			place.Map{Stripes: stripes, Locks: api.MaxLocks, Threads: api.MaxThreads, Conds: api.MaxConds, Data: api.MaxData})
	}
	return list
}

// rows fails the test, unless Rows of these places is the stripes that place.Hash has of them, and leaves the places as they are.
func rows(t *testing.T, m place.Map, places []int) {
	t.Helper()
	some := map[int]int{}
	for _, a := range places {
		some[place.Hash(m, a)]++
	}
	delete(some, -1)
	want, ahead := slices.Sorted(maps.Keys(some)), slices.Clone(places)
	if got := stripe.Rows(m, places); !slices.Equal(got, want) {
		t.Errorf("%v: Rows of %v = %v, not %v", m, places, got, want)
	}
	if !slices.Equal(places, ahead) {
		t.Errorf("%v: Rows turns %v to %v", m, ahead, places)
	}
}

// none is places that no map has.
func none(m place.Map) []int {
	size := place.Size(m)
	return []int{math.MinInt, -1 << 32, -size, -2, -1, size, size + 1, 2 * size, 1 << 32, 1<<32 + 1, math.MaxInt}
}

// TestRows: of each place, of each two, of all of them; rising and falling, more than once, and with places between that are none.
func TestRows(t *testing.T) {
	for _, m := range mapsThatMay() {
		var all []int
		for a := range place.Size(m) {
			all = append(all, a)
			rows(t, m, []int{a})
			rows(t, m, []int{a, a})
			rows(t, m, []int{-1, a, place.Size(m)})
			for b := range place.Size(m) {
				if m.Data <= 5 {
					rows(t, m, []int{a, b})
				}
			}
		}
		rows(t, m, all)
		rows(t, m, all[len(all)/2:])
		slices.Reverse(all)
		rows(t, m, all)
		rows(t, m, slices.Concat(all, none(m), all))
	}
}

// TestRowsByHand: the numbers themselves: of 4 stripes, a place's is told by its bits 0 and 1, exclusive or its bits 4 and 5.
func TestRowsByHand(t *testing.T) {
	m := place.Map{Stripes: 4, Threads: 1, Data: 16}
	for _, x := range []struct{ places, want []int }{
		{[]int{0}, []int{0}},
		{[]int{3}, []int{3}},
		{[]int{3, 1, 0}, []int{0, 1, 3}},
		{[]int{16, 1}, []int{1}},
		{[]int{16, 17, 18, 19}, []int{0, 1, 2, 3}},
		{[]int{32, 7, -1, 7, 32, 40}, []int{2, 3}},
	} {
		if got := stripe.Rows(m, x.places); !slices.Equal(got, x.want) {
			t.Errorf("Rows of %v = %v, not %v", x.places, got, x.want)
		}
	}
}

func TestRowsOfNothing(t *testing.T) {
	for _, m := range mapsThatMay() {
		for _, places := range [][]int{nil, {}, {-1}, none(m)} {
			if got := stripe.Rows(m, places); len(got) != 0 {
				t.Errorf("%v: Rows of %v = %v", m, places, got)
			}
		}
	}
}

// TestRowsOfBadMaps: a map that may not be has no stripes.
func TestRowsOfBadMaps(t *testing.T) {
	list := []place.Map{{}, {Stripes: 4}, {Threads: 2}}
	for _, n := range []int{math.MinInt, -1, 33, 1<<32 + 1, math.MaxInt} {
		list = append(list,
			place.Map{Stripes: n, Locks: 1, Threads: 2},
			place.Map{Stripes: 4, Locks: n, Threads: 2},
			place.Map{Stripes: 4, Locks: 1, Threads: n},
			place.Map{Stripes: 4, Locks: 1, Threads: 2, Conds: n},
			place.Map{Stripes: 4, Locks: 1, Threads: 2, Data: n})
	}
	for _, m := range list {
		if got := stripe.Rows(m, []int{0, 1, 2, 3, 17}); len(got) != 0 {
			t.Errorf("%v: Rows = %v", m, got)
		}
	}
}

// TestRowsAreNew: what is answered is the caller's own.
func TestRowsAreNew(t *testing.T) {
	m := place.Map{Stripes: 8, Threads: 2, Data: 8}
	places := []int{5, 1, 2}
	first := stripe.Rows(m, places)
	first[0], first[1], first[2] = 90, 91, 92
	rows(t, m, places)
	if len(first) != 3 || !slices.Equal(places, []int{5, 1, 2}) {
		t.Error(first, places)
	}
}

// TestRowsOfMany: a list may be much longer than there are places.
func TestRowsOfMany(t *testing.T) {
	m := place.Map{Stripes: 16, Threads: 1, Data: 8}
	places := make([]int, 1<<20)
	for i := range places {
		places[i] = i%9 - 1
	}
	rows(t, m, places)
}
