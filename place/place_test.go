package place_test

import (
	"math"
	"strconv"
	"testing"

	"syncope/api"
	"syncope/place"
)

// some is a map of a few of each; least and most are those at the limits.
var (
	some  = place.Map{Stripes: 4, Locks: 2, Threads: 3, Conds: 2, Data: 3}
	least = place.Map{Stripes: 1, Threads: 1}
	most  = place.Map{Stripes: api.MaxStripes, Locks: api.MaxLocks, Threads: api.MaxThreads, Conds: api.MaxConds, Data: api.MaxData}
)

// word is one that the chapter tells of: by which call its place is told, and its name.
type word struct {
	at   int
	name string
}

// inOrder is all words of a map, one by one, in the order in which the chapter lists them.
func inOrder(m place.Map) []word {
	list := []word{{place.Clock(m), "clock"}, {place.Seq(m), "seq"}}
	for i := range m.Stripes {
		list = append(list, word{place.Stripe(m, i), "stripe" + number(i)})
	}
	for l := range m.Locks {
		for part, name := range []string{"tail", "next", "serving", "readers", "word", "count"} {
			list = append(list, word{place.Lock(m, l, part), "lock" + number(l) + " " + name})
		}
	}
	for t := range m.Threads {
		for part, name := range []string{"phase", "epoch"} {
			list = append(list, word{place.Thread(m, t, part), "thread" + number(t) + " " + name})
		}
	}
	for t := range m.Threads {
		for l := range m.Locks {
			for part, name := range []string{"gate", "link"} {
				list = append(list, word{place.Node(m, t, l, part), "node" + number(t) + number(l) + " " + name})
			}
		}
	}
	for t := range m.Threads {
		list = append(list, word{place.Flag(m, t), "flag" + number(t)})
	}
	for c := range m.Conds {
		for part, name := range []string{"head", "end", "slot 0", "slot 1", "slot 2", "slot 3"} {
			list = append(list, word{place.Cond(m, c, part), "cond" + number(c) + " " + name})
		}
	}
	for d := range m.Data {
		list = append(list, word{place.Data(m, d), "data" + number(d)}, word{place.Owner(m, d), "owner" + number(d)})
	}
	return list
}

func number(n int) string { return " " + strconv.Itoa(n) }

// maps is all maps that may be, but of the numbers of stripes and of data words only a few.
func maps() []place.Map {
	var list []place.Map
	for _, stripes := range []int{1, 2, 7, 15, 16} {
		for locks := range api.MaxLocks + 1 {
			for threads := 1; threads <= api.MaxThreads; threads++ {
				for conds := range api.MaxConds + 1 {
					for _, data := range []int{0, 1, 2, 31, 32} {
						list = append(list, place.Map{Stripes: stripes, Locks: locks, Threads: threads, Conds: conds, Data: data})
					}
				}
			}
		}
	}
	return list
}

// badMaps is maps that may not be: one number of a good one is beyond its limits, or all are.
func badMaps() []place.Map {
	list := []place.Map{{}, {Stripes: -1, Locks: -1, Threads: -1, Conds: -1, Data: -1}}
	for _, good := range []place.Map{least, some, most} {
		for field, limits := range [][2]int{{1, api.MaxStripes}, {0, api.MaxLocks}, {1, api.MaxThreads}, {0, api.MaxConds}, {0, api.MaxData}} {
			for _, n := range []int{math.MinInt, -1 << 32, limits[0] - 2, limits[0] - 1, limits[1] + 1, limits[1] + 2, 1<<32 + 1, math.MaxInt} {
				bad := good
				*[]*int{&bad.Stripes, &bad.Locks, &bad.Threads, &bad.Conds, &bad.Data}[field] = n
				list = append(list, bad)
			}
		}
	}
	return list
}

// wild is numbers within and without; the great ones come back among the small ones, if a sum or a product wraps.
func wild() []int {
	list := []int{math.MinInt, math.MinInt + 1, math.MaxInt, math.MaxInt - 1}
	for n := -40; n <= 40; n++ {
		list = append(list, n)
	}
	for shift := 28; shift <= 62; shift++ {
		list = append(list, 1<<shift, 1<<shift+1, -1<<shift, -1<<shift+1)
	}
	for _, by := range []int{3, 6, 12} {
		list = append(list, math.MaxInt/by, math.MaxInt/by+1, math.MinInt/by, math.MinInt/by+1)
	}
	return list
}

// placeOf holds a place against whether there is to be one.
func placeOf(t *testing.T, m place.Map, what string, at int, there bool) {
	t.Helper()
	if there && (at < 0 || at >= place.Size(m)) || !there && at != -1 {
		t.Errorf("%v: %s stands at %d", m, what, at)
	}
}

// 3.1

func TestParts(t *testing.T) {
	got := [...]int{place.Tail, place.Next, place.Serving, place.Readers, place.Word, place.Count, place.Phase, place.Epoch, place.Gate, place.Link, place.Head, place.End, place.Slot}
	if got != [...]int{0, 1, 2, 3, 4, 5, 0, 1, 0, 1, 0, 1, 2} {
		t.Errorf("the parts are %v", got)
	}
}

func TestMay(t *testing.T) {
	for _, m := range maps() {
		if !place.May(m) {
			t.Errorf("May(%v) = false", m)
		}
	}
	for stripes := 1; stripes <= api.MaxStripes; stripes++ {
		for data := range api.MaxData + 1 {
			if m := (place.Map{Stripes: stripes, Threads: 1, Data: data}); !place.May(m) {
				t.Errorf("May(%v) = false", m)
			}
		}
	}
	for _, m := range badMaps() {
		if place.May(m) {
			t.Errorf("May(%v) = true", m)
		}
	}
}

func TestNothingHasAPlaceWhereTheMapMayNotBe(t *testing.T) {
	for _, m := range badMaps() {
		if place.Size(m) != 0 {
			t.Errorf("Size(%v) = %d", m, place.Size(m))
		}
		for _, at := range []int{
			place.Clock(m), place.Seq(m), place.Stripe(m, 0), place.Lock(m, 0, 0), place.Thread(m, 0, 0), place.Node(m, 0, 0, 0),
			place.Flag(m, 0), place.Cond(m, 0, 0), place.Data(m, 0), place.Owner(m, 0), place.Hash(m, 0), place.Hash(m, -1), place.Hash(m, 1),
		} {
			if at != -1 {
				t.Errorf("%v has a place, %d", m, at)
			}
		}
		for _, a := range []int{-1, 0, 1, 2, math.MinInt, math.MaxInt} {
			if name := place.Name(m, a); name != "" {
				t.Errorf("Name(%v, %d) = %q", m, a, name)
			}
		}
	}
}

func TestSize(t *testing.T) {
	for _, c := range []struct {
		m    place.Map
		want int
	}{{least, 6}, {some, 57}, {most, 174}, {place.Map{Stripes: 16, Threads: 1}, 21}, {place.Map{Stripes: 1, Threads: 4}, 15}, {place.Map{Stripes: 1, Locks: 4, Threads: 1}, 38}} {
		if got := place.Size(c.m); got != c.want {
			t.Errorf("Size(%v) = %d, not %d", c.m, got, c.want)
		}
	}
}

func TestWordsStandInOrder(t *testing.T) {
	for _, m := range maps() {
		list := inOrder(m)
		if place.Size(m) != len(list) {
			t.Errorf("Size(%v) = %d, not %d", m, place.Size(m), len(list))
		}
		for a, w := range list {
			if w.at != a {
				t.Fatalf("%v: %s stands at %d, not %d", m, w.name, w.at, a)
			}
		}
	}
}

func TestOnlyWhatIsThereHasAPlace(t *testing.T) {
	for _, m := range []place.Map{least, some, most, {Stripes: 2, Locks: 3, Threads: 1}, {Stripes: 3, Threads: 4, Data: 1}} {
		for _, n := range wild() {
			placeOf(t, m, "stripe"+number(n), place.Stripe(m, n), n >= 0 && n < m.Stripes)
			placeOf(t, m, "flag"+number(n), place.Flag(m, n), n >= 0 && n < m.Threads)
			placeOf(t, m, "data"+number(n), place.Data(m, n), n >= 0 && n < m.Data)
			placeOf(t, m, "owner"+number(n), place.Owner(m, n), n >= 0 && n < m.Data)
			for _, part := range wild() {
				both := number(n) + number(part)
				placeOf(t, m, "lock"+both, place.Lock(m, n, part), n >= 0 && n < m.Locks && part >= 0 && part < 6)
				placeOf(t, m, "thread"+both, place.Thread(m, n, part), n >= 0 && n < m.Threads && part >= 0 && part < 2)
				placeOf(t, m, "cond"+both, place.Cond(m, n, part), n >= 0 && n < m.Conds && part >= 0 && part < 6)
			}
		}
	}
}

func TestOnlyNodesThatAreThereHaveAPlace(t *testing.T) {
	for _, m := range []place.Map{least, some, most, {Stripes: 2, Locks: 3, Threads: 1}, {Stripes: 3, Threads: 4, Data: 1}} {
		for _, thread := range wild() {
			for _, lock := range wild() {
				for _, part := range []int{math.MinInt, -2, -1, 0, 1, 2, 3, 1 << 62, math.MaxInt} {
					there := thread >= 0 && thread < m.Threads && lock >= 0 && lock < m.Locks && (part == 0 || part == 1)
					placeOf(t, m, "node"+number(thread)+number(lock)+number(part), place.Node(m, thread, lock, part), there)
				}
			}
		}
	}
}

// 3.2

func TestHash(t *testing.T) {
	for _, stripes := range []int{1, 2, 3, 4, 7, 15, 16} {
		m := most
		m.Stripes = stripes
		for a := range place.Size(m) {
			if got := place.Hash(m, a); got != byBits(a)%stripes {
				t.Errorf("Hash of %d among %d stripes = %d, not %d", a, stripes, got, byBits(a)%stripes)
			}
		}
	}
}

func TestHashOfSome(t *testing.T) {
	for _, c := range []struct{ a, want int }{{0, 0}, {1, 1}, {3, 3}, {4, 0}, {15, 3}, {16, 1}, {17, 0}, {31, 2}, {48, 3}, {56, 3}} {
		if got := place.Hash(some, c.a); got != c.want {
			t.Errorf("Hash of %d = %d, not %d", c.a, got, c.want)
		}
	}
}

// byBits is a, exclusive or a shifted down by 4, worked out one bit after the other.
func byBits(a int) int {
	sum := 0
	for bit := 1; bit <= a; bit *= 2 {
		if a/bit%2 != a/bit/16%2 {
			sum += bit
		}
	}
	return sum
}

func TestNames(t *testing.T) {
	for _, m := range maps() {
		for a, w := range inOrder(m) {
			if got := place.Name(m, a); got != w.name {
				t.Fatalf("%v: the word at %d is %q, not %q", m, a, got, w.name)
			}
		}
	}
}

func TestNothingBeyondTheSize(t *testing.T) {
	for _, m := range []place.Map{least, some, most} {
		size := place.Size(m)
		for _, a := range []int{math.MinInt, -1 << 32, -size, -2, -1, size, size + 1, 2 * size, api.MaxWords, 1 << 32, 1 << 62, math.MaxInt} {
			if stripe, name := place.Hash(m, a), place.Name(m, a); stripe != -1 || name != "" {
				t.Errorf("%v: at %d are stripe %d, name %q", m, a, stripe, name)
			}
		}
		if place.Hash(m, size-1) == -1 || place.Name(m, size-1) == "" {
			t.Errorf("%v: at %d is nothing", m, size-1)
		}
	}
}

// 3.3

func TestEachWordHasOnePlace(t *testing.T) {
	for _, m := range maps() {
		stands := make([]int, place.Size(m))
		for _, w := range inOrder(m) {
			if w.at < 0 || w.at >= len(stands) {
				t.Fatalf("%v: %s stands at %d", m, w.name, w.at)
			}
			stands[w.at]++
		}
		for a, n := range stands {
			if n != 1 {
				t.Fatalf("%v: %d words stand at %d", m, n, a)
			}
		}
	}
}

func TestEachPlaceHasAName(t *testing.T) {
	for _, m := range []place.Map{least, some, most} {
		stands := map[string]int{}
		for a := range place.Size(m) {
			name := place.Name(m, a)
			if at, ok := stands[name]; ok || name == "" {
				t.Errorf("%v: at %d and %d stands %q", m, at, a, name)
			}
			stands[name] = a
		}
	}
}
