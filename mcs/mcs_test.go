package mcs_test

import (
	"math"
	"slices"
	"testing"

	"syncope/api"
	"syncope/mcs"
	"syncope/mem"
	"syncope/place"
)

// maps is some that may be, each with a lock at least.
func maps() []place.Map {
	return []place.Map{
		{Stripes: 1, Locks: 1, Threads: 1},
		{Stripes: 1, Locks: 2, Threads: 3, Data: 1},
		{Stripes: 7, Locks: 3, Threads: 2, Conds: 2, Data: 5},
		{Stripes: 5, Locks: 1, Threads: 4, Conds: 1},
		{Stripes: api.MaxStripes, Locks: api.MaxLocks, Threads: api.MaxThreads, Conds: api.MaxConds, Data: api.MaxData},
	}
}

// badMaps is maps that may not be, and one without locks.
func badMaps() []place.Map {
	good := place.Map{Stripes: 2, Locks: 2, Threads: 2, Conds: 1, Data: 1}
	list := []place.Map{{}, {Stripes: 1, Threads: 4}}
	for field, limits := range [][2]int{{1, api.MaxStripes}, {0, api.MaxLocks}, {1, api.MaxThreads}, {0, api.MaxConds}, {0, api.MaxData}} {
		for _, n := range []int{math.MinInt, limits[0] - 1, limits[1] + 1, math.MaxInt} {
			bad := good
			*[]*int{&bad.Stripes, &bad.Locks, &bad.Threads, &bad.Conds, &bad.Data}[field] = n
			list = append(list, bad)
		}
	}
	return list
}

// outside is numbers that are not below many.
func outside(many int) []int {
	return []int{math.MinInt, math.MinInt + 1, -1 << 32, -many, -2, -1, many, many + 1, 256, 1 << 32, 1<<32 + 1, math.MaxInt - 1, math.MaxInt}
}

// onWay is the States in which Take, or Drop, makes an access; offWay those in which it makes none.
func onWay(name string) []int {
	if name == "Take" {
		return []int{0, 1, 2, 3, 4, 5}
	}
	return []int{9, 7, 6, 8}
}

func offWay(name string) []int {
	wild := []int{math.MinInt, -9, -1, 10, 11, 12, 14, 256, 256 + 3, 1 << 32, 1<<32 + 1, 1<<32 + 9, math.MaxInt}
	if name == "Take" {
		return append(wild, 6, 7, 8, 9)
	}
	return append(wild, 0, 1, 2, 3, 4, 5)
}

// number is what the chapter gives as the number of a thread's node.
func number(m place.Map, thread, lock int) int64 { return int64(1 + thread*m.Locks + lock) }

// numbers is those of all nodes of that lock, thread by thread.
func numbers(m place.Map, lock int) []int64 {
	var list []int64
	for thread := range m.Threads {
		list = append(list, number(m, thread, lock))
	}
	return list
}

// notNumbers is Words that are no number of a node of that lock, other locks' among them.
func notNumbers(m place.Map, lock int) []int64 {
	list := []int64{math.MinInt64, math.MinInt64 + 1, -1 << 32, -1, 1 << 32, math.MaxInt64}
	for n := int64(-m.Locks); n <= int64(m.Locks*(m.Threads+2)+1); n++ {
		if !slices.Contains(numbers(m, lock), n) {
			list = append(list, n)
		}
	}
	for _, n := range numbers(m, lock) {
		list = append(list, n+256, n+1<<32, n-1<<32, -n)
	}
	return list
}

// other is the words of a map, each another one, and none of them a number of a node.
func other(m place.Map) []int64 {
	words := make([]int64, place.Size(m))
	for a := range words {
		words[a] = int64(1000 + a)
	}
	return words
}

// call is Take or Drop.
type call struct {
	name string
	do   func(place.Map, *mem.Mem, api.Hand) api.Hand
}

var (
	take  = call{"Take", mcs.Take}
	drop  = call{"Drop", mcs.Drop}
	calls = []call{take, drop}
)

// does fails the test, unless the call of that hand is answered so, with that one access and no other (Kind 0: with none), at a memory of these words.
func does(t *testing.T, c call, m place.Map, words []int64, h, want api.Hand, done api.Access) {
	t.Helper()
	w := mem.New(words...)
	got := c.do(m, w, h)
	stands, steps := slices.Clone(words), 0
	if done.Kind != 0 {
		steps = 1
	}
	if done.Kind != 0 && done.Done {
		stands[done.At] = done.Val
	}
	if got != want {
		t.Errorf("%v: %s of %v = %v, not %v", m, c.name, h, got, want)
	}
	if w.Last() != done || w.Steps() != steps {
		t.Errorf("%v: %s of %v: %d accesses, the last one %v, not %v", m, c.name, h, w.Steps(), w.Last(), done)
	}
	if !slices.Equal(w.All(), stands) {
		t.Errorf("%v: %s of %v leaves %v, not %v", m, c.name, h, w.All(), stands)
	}
}

// load, store and swap are accesses as they are told.
func load(a int, saw int64) api.Access {
	return api.Access{Kind: api.ALoad, At: a, Val: saw, Saw: saw, Done: true}
}

func store(a int, saw, val int64) api.Access {
	return api.Access{Kind: api.AStore, At: a, Val: val, Saw: saw, Done: true}
}

func swap(a int, saw, old, val int64) api.Access {
	return api.Access{Kind: api.ASwap, At: a, Val: val, Saw: saw, Done: saw == old}
}

// eachHand goes through the hands of each lock and each thread of each map, to read and to write, that have not begun.
func eachHand(do func(place.Map, api.Hand)) {
	for _, m := range maps() {
		for lock := range m.Locks {
			for thread := range m.Threads {
				do(m, api.Hand{Thread: thread, Lock: lock})
				do(m, api.Hand{Thread: thread, Lock: lock, Read: true})
			}
		}
	}
}

// at is that hand in a State, with a Word.
func at(h api.Hand, state int, word int64) api.Hand {
	h.State, h.Word = state, word
	return h
}

// own is the place of a part of the hand's own node.
func own(m place.Map, h api.Hand, part int) int { return place.Node(m, h.Thread, h.Lock, part) }

// anyWords is what may stand in a hand's Word, or in a word, by a wrong hand or a wrong memory too.
func anyWords(m place.Map, lock int) []int64 {
	return append(notNumbers(m, lock), numbers(m, lock)...)
}

// Id

func TestId(t *testing.T) {
	for _, m := range maps() {
		count := int64(0)
		for thread := range m.Threads {
			for lock := range m.Locks {
				count++
				if got := mcs.Id(m, thread, lock); got != count {
					t.Errorf("%v: Id of %d, %d = %d, not %d", m, thread, lock, got, count)
				}
			}
		}
		for _, n := range outside(m.Threads) {
			if mcs.Id(m, n, 0) != 0 || mcs.Id(m, n, m.Locks-1) != 0 {
				t.Errorf("%v: Id of thread %d", m, n)
			}
		}
		for _, n := range outside(m.Locks) {
			if mcs.Id(m, 0, n) != 0 || mcs.Id(m, m.Threads-1, n) != 0 {
				t.Errorf("%v: Id of lock %d", m, n)
			}
		}
	}
	for _, m := range badMaps() {
		if mcs.Id(m, 0, 0) != 0 || mcs.Id(m, 1, 1) != 0 {
			t.Errorf("%v: Id", m)
		}
	}
}

// 9.1

func TestExample(t *testing.T) {
	m := place.Map{Stripes: 1, Locks: 1, Threads: 1}
	w := mem.New(make([]int64, place.Size(m))...)
	h := api.Hand{}
	for i, state := range []int{1, 2, 3, api.HandHeld} {
		if h = mcs.Take(m, w, h); h != (api.Hand{State: state}) || w.Steps() != i+1 {
			t.Errorf("step %d to take a new lock: %v", i+1, h)
		}
	}
	for i, state := range []int{7, api.HandOut} {
		if h = mcs.Drop(m, w, h); h != (api.Hand{State: state}) || w.Steps() != i+5 {
			t.Errorf("step %d to drop it: %v", i+1, h)
		}
	}
}

func TestTakeReadiesItsNode(t *testing.T) {
	eachHand(func(m place.Map, h api.Hand) {
		gate, link := own(m, h, place.Gate), own(m, h, place.Link)
		words := other(m)
		for _, word := range anyWords(m, h.Lock) {
			words[gate], words[link] = word, word
			does(t, take, m, words, at(h, 0, word), at(h, 1, word), store(gate, word, 1))
			does(t, take, m, words, at(h, 1, word), at(h, 2, word), store(link, word, 0))
		}
	})
}

func TestTakeLooksWhoIsLast(t *testing.T) {
	eachHand(func(m place.Map, h api.Hand) {
		tail := place.Lock(m, h.Lock, place.Tail)
		words := other(m)
		for _, last := range anyWords(m, h.Lock) {
			words[tail] = last
			for _, word := range []int64{0, 7, last} {
				does(t, take, m, words, at(h, 2, word), at(h, 3, last), load(tail, last))
			}
		}
	})
}

// TestTakeSwaps: the lock is held at once if nobody was there; else the hand is behind the one that it saw, or looks again.
func TestTakeSwaps(t *testing.T) {
	eachHand(func(m place.Map, h api.Hand) {
		tail := place.Lock(m, h.Lock, place.Tail)
		words := other(m)
		for _, last := range anyWords(m, h.Lock) {
			words[tail] = last
			for _, word := range anyWords(m, h.Lock) {
				want := at(h, 3, last)
				switch {
				case word == 0 && last == 0:
					want = at(h, api.HandHeld, 0)
				case word == last:
					want = at(h, 4, word)
				}
				does(t, take, m, words, at(h, 3, word), want, swap(tail, last, word, number(m, h.Thread, h.Lock)))
			}
		}
	})
}

func TestTakeTellsTheOneAhead(t *testing.T) {
	eachHand(func(m place.Map, h api.Hand) {
		for ahead, word := range numbers(m, h.Lock) {
			link := place.Node(m, ahead, h.Lock, place.Link)
			words := other(m)
			for _, was := range []int64{words[link], 0, 1, word} {
				words[link] = was
				does(t, take, m, words, at(h, 4, word), at(h, 5, 0), store(link, was, number(m, h.Thread, h.Lock)))
			}
		}
	})
}

func TestTakeWaits(t *testing.T) {
	eachHand(func(m place.Map, h api.Hand) {
		gate := own(m, h, place.Gate)
		words := other(m)
		for _, stands := range anyWords(m, h.Lock) {
			words[gate] = stands
			state := 5
			if stands == 0 {
				state = api.HandHeld
			}
			for _, word := range []int64{0, 1, -7, stands} {
				does(t, take, m, words, at(h, 5, word), at(h, state, word), load(gate, stands))
			}
		}
	})
}

// 9.2

// TestDropAsksWhoIsBehind: once ahead of its Swap, again and again behind it.
func TestDropAsksWhoIsBehind(t *testing.T) {
	eachHand(func(m place.Map, h api.Hand) {
		link := own(m, h, place.Link)
		words := other(m)
		for _, next := range anyWords(m, h.Lock) {
			words[link] = next
			for _, word := range []int64{0, 5, -1, next} {
				held, called := at(h, 8, next), at(h, 8, next)
				if next == 0 {
					held, called = at(h, 7, word), at(h, 6, word)
				}
				does(t, drop, m, words, at(h, api.HandHeld, word), held, load(link, next))
				does(t, drop, m, words, at(h, 6, word), called, load(link, next))
			}
		}
	})
}

func TestDropSwaps(t *testing.T) {
	eachHand(func(m place.Map, h api.Hand) {
		tail := place.Lock(m, h.Lock, place.Tail)
		id := number(m, h.Thread, h.Lock)
		words := other(m)
		for _, last := range anyWords(m, h.Lock) {
			words[tail] = last
			state := 6
			if last == id {
				state = api.HandOut
			}
			for _, word := range []int64{0, 5, id, last} {
				does(t, drop, m, words, at(h, 7, word), at(h, state, word), swap(tail, last, id, 0))
			}
		}
	})
}

func TestDropOpensTheNextGate(t *testing.T) {
	eachHand(func(m place.Map, h api.Hand) {
		for next, word := range numbers(m, h.Lock) {
			gate := place.Node(m, next, h.Lock, place.Gate)
			words := other(m)
			for _, was := range []int64{words[gate], 1, 0} {
				words[gate] = was
				does(t, drop, m, words, at(h, 8, word), h, store(gate, was, 0))
			}
		}
	})
}

// TestNoSuchNode: a Word that is no number of a node of this lock, where one is asked for.
func TestNoSuchNode(t *testing.T) {
	eachHand(func(m place.Map, h api.Hand) {
		words := other(m)
		for _, word := range notNumbers(m, h.Lock) {
			ahead, next := at(h, 4, word), at(h, 8, word)
			does(t, take, m, words, ahead, ahead, api.Access{})
			does(t, drop, m, words, next, next, api.Access{})
		}
	})
}

// TestNothingToDo: hands that are where they are to be brought, and States that are none.
func TestNothingToDo(t *testing.T) {
	eachHand(func(m place.Map, h api.Hand) {
		for _, word := range []int64{0, 1, number(m, h.Thread, h.Lock), math.MinInt64} {
			for _, c := range calls {
				for _, state := range offWay(c.name) {
					none := at(h, state, word)
					does(t, c, m, other(m), none, none, api.Access{})
					does(t, c, m, make([]int64, place.Size(m)), none, none, api.Access{})
				}
			}
		}
	})
}

// TestNoSuchHand: threads and locks that are none, in each State.
func TestNoSuchHand(t *testing.T) {
	for _, m := range maps() {
		var wrong []api.Hand
		for _, n := range outside(m.Threads) {
			wrong = append(wrong, api.Hand{Thread: n}, api.Hand{Thread: n, Lock: m.Locks - 1, Read: true})
		}
		for _, n := range outside(m.Locks) {
			wrong = append(wrong, api.Hand{Lock: n}, api.Hand{Thread: m.Threads - 1, Lock: n, Read: true})
		}
		wrong = append(wrong, api.Hand{Thread: -1, Lock: -1}, api.Hand{Thread: m.Threads, Lock: m.Locks})
		for _, h := range wrong {
			for _, c := range calls {
				for _, state := range onWay(c.name) {
					h = at(h, state, 1)
					does(t, c, m, other(m), h, h, api.Access{})
				}
			}
		}
	}
}

func TestNoSuchMap(t *testing.T) {
	words := make([]int64, api.MaxWords)
	for a := range words {
		words[a] = 1
	}
	for _, m := range badMaps() {
		for _, c := range calls {
			for _, state := range onWay(c.name) {
				for _, h := range []api.Hand{{State: state, Word: 1}, {Thread: 1, Lock: 1, State: state, Word: 2}} {
					does(t, c, m, words, h, h, api.Access{})
				}
			}
		}
		if w := mem.New(words...); mcs.Last(m, w, 0) != -1 || mcs.Last(m, w, 1) != -1 || w.Steps() != 0 {
			t.Errorf("%v: Last", m)
		}
	}
}

// TestNoMemory: in one that is shorter than the map nothing is turned, though the words that a call asks for may be there.
func TestNoMemory(t *testing.T) {
	for _, m := range maps() {
		words := make([]int64, place.Size(m))
		for a := range words {
			words[a] = 1
		}
		for _, w := range []*mem.Mem{nil, {}, mem.New(), mem.New(1), mem.New(words[:len(words)/2]...), mem.New(words[1:]...)} {
			for _, c := range calls {
				for _, state := range onWay(c.name) {
					h := api.Hand{State: state, Read: true, Word: 1}
					if got := c.do(m, w, h); got != h {
						t.Errorf("%v: %s of %v at %d words = %v", m, c.name, h, w.Len(), got)
					}
				}
			}
			if got := mcs.Last(m, w, 0); got != -1 {
				t.Errorf("%v: Last at %d words = %d", m, w.Len(), got)
			}
			if w.Steps() != 0 || slices.Min(append(w.All(), 1)) != 1 {
				t.Errorf("%v: %d accesses at %d words", m, w.Steps(), w.Len())
			}
		}
	}
}

// TestMoreMemory: one that has more words than the map is one.
func TestMoreMemory(t *testing.T) {
	m := place.Map{Stripes: 1, Locks: 1, Threads: 1}
	w := mem.New(make([]int64, place.Size(m)+1)...)
	h := api.Hand{}
	for range 4 {
		h = mcs.Take(m, w, h)
	}
	if h.State != api.HandHeld || mcs.Last(m, w, 0) != 0 {
		t.Errorf("taken: %v", h)
	}
	if h = mcs.Drop(m, w, mcs.Drop(m, w, h)); h != (api.Hand{}) || mcs.Last(m, w, 0) != -1 || w.Steps() != 6 {
		t.Errorf("dropped: %v", h)
	}
}

// 9.3

// last fails the test, unless Last is answered so, without a step.
func last(t *testing.T, m place.Map, words []int64, lock, want int) {
	t.Helper()
	w := mem.New(words...)
	if got := mcs.Last(m, w, lock); got != want {
		t.Errorf("%v: Last of lock %d = %d, not %d: %v", m, lock, got, want, words)
	}
	if w.Steps() != 0 || w.Last() != (api.Access{}) || !slices.Equal(w.All(), words) {
		t.Errorf("%v: Last of lock %d makes accesses", m, lock)
	}
}

func TestLast(t *testing.T) {
	for _, m := range maps() {
		for lock := range m.Locks {
			tail := place.Lock(m, lock, place.Tail)
			words := other(m)
			for thread, id := range numbers(m, lock) {
				words[tail] = id
				last(t, m, words, lock, thread)
				for l := range m.Locks {
					if l != lock {
						last(t, m, words, l, -1)
					}
				}
			}
			for _, none := range notNumbers(m, lock) {
				words[tail] = none
				last(t, m, words, lock, -1)
			}
		}
		ones := make([]int64, place.Size(m))
		for a := range ones {
			ones[a] = 1
		}
		for _, lock := range outside(m.Locks) {
			last(t, m, ones, lock, -1)
		}
	}
}

// 9.4

// wide is the map of the crowds below, wideSize its Size.
var wide = place.Map{Stripes: 1, Locks: 2, Threads: 4}

const wideSize = 43

// stand is how far some threads are with two locks: all words, of each thread its hand's State and Word and how often it took; and of each lock who has come into its queue and not given the lock back, in the order of the Swaps, and how many these are. (In few bytes: there are many.)
type stand struct {
	words             [wideSize]int8
	state, word, took [4]int8
	line              [2][4]int8
	long              [2]int8
}

// crowd is so many threads, each of which takes its lock so often.
type crowd struct {
	t       *testing.T
	threads int
	often   int8
	locks   [4]int // of each thread its own
}

// memory is a memory that stands so.
func memory(s stand) *mem.Mem {
	var words [wideSize]int64
	for a, word := range s.words {
		words[a] = int64(word)
	}
	return mem.New(words[:]...)
}

// hand is a thread's.
func (c *crowd) hand(s stand, thread int) api.Hand {
	return api.Hand{Thread: thread, Lock: c.locks[thread], Read: thread%2 == 1, State: int(s.state[thread]), Word: int64(s.word[thread])}
}

// step is what comes of it if a thread goes on by one call.
func (c *crowd) step(s stand, thread int) stand {
	w, h := memory(s), c.hand(s, thread)
	goOn := mcs.Take
	if slices.Contains(onWay("Drop"), h.State) {
		goOn = mcs.Drop
	}
	on := goOn(wide, w, h)
	if w.Steps() != 1 {
		c.t.Fatalf("%v goes on by %d accesses: %v", h, w.Steps(), s)
	}
	if h.State == 3 && w.Last().Done {
		s.line[h.Lock][s.long[h.Lock]] = int8(thread)
		s.long[h.Lock]++
		s.took[thread]++
	}
	s.state[thread], s.word[thread] = int8(on.State), int8(on.Word)
	if int64(s.word[thread]) != on.Word || on != c.hand(s, thread) {
		c.t.Fatalf("%v goes on as %v", h, on)
	}
	for a, word := range w.All() {
		s.words[a] = int8(word)
	}
	if on.State == api.HandOut {
		c.leave(&s, h.Lock, thread)
	}
	return s
}

// leave takes the first one out of a lock's line; it has to be that thread.
func (c *crowd) leave(s *stand, lock, thread int) {
	if s.long[lock] == 0 || int(s.line[lock][0]) != thread {
		c.t.Fatalf("thread %d gives lock %d back, and was not the first: %v", thread, lock, *s)
	}
	copy(s.line[lock][:], s.line[lock][1:])
	s.line[lock][3] = 0
	s.long[lock]--
}

// judge holds a stand against the promise: nobody holds a lock but the first one in its line, who comes to hold it with the next call; and the line's last one is the one that Last tells.
func (c *crowd) judge(s stand) {
	for thread := range c.threads {
		h := c.hand(s, thread)
		first := s.long[h.Lock] > 0 && int(s.line[h.Lock][0]) == thread
		if slices.Contains(onWay("Drop"), h.State) && !first {
			c.t.Fatalf("thread %d holds lock %d, and is not the first: %v", thread, h.Lock, s)
		}
		if h.State == 4 && first {
			c.t.Fatalf("thread %d is the first at lock %d, and does not hold it: %v", thread, h.Lock, s)
		}
		if h.State != 5 {
			continue
		}
		if got := mcs.Take(wide, memory(s), h); got.State == api.HandHeld != first {
			c.t.Fatalf("thread %d, first or not (%v), comes to hold lock %d or not: %v", thread, first, h.Lock, got)
		}
	}
	for lock := range wide.Locks {
		want := -1
		if long := s.long[lock]; long > 0 {
			want = int(s.line[lock][long-1])
		}
		if got := mcs.Last(wide, memory(s), lock); got != want {
			c.t.Fatalf("Last of lock %d = %d, not %d: %v", lock, got, want, s)
		}
	}
}

// walk goes through all that may come of a new memory, whoever goes on.
func (c *crowd) walk() {
	seen, list, ended := map[stand]bool{{}: true}, []stand{{}}, 0
	for len(list) > 0 {
		s := list[len(list)-1]
		list = list[:len(list)-1]
		c.judge(s)
		over, stuck := true, true
		for thread := range c.threads {
			if s.state[thread] == api.HandOut && s.took[thread] == c.often {
				continue
			}
			on := c.step(s, thread)
			over, stuck = false, stuck && on == s
			if !seen[on] {
				seen[on] = true
				list = append(list, on)
			}
		}
		switch {
		case over:
			ended++
		case stuck:
			c.t.Fatalf("nobody goes on: %v", s)
		}
	}
	if ended == 0 {
		c.t.Errorf("%v: nobody comes to the end", *c)
	}
}

func TestTurns(t *testing.T) {
	if place.Size(wide) != wideSize {
		t.Fatal(place.Size(wide))
	}
	for _, x := range []struct {
		threads int
		often   int8
		locks   [4]int
	}{
		{1, 3, [4]int{}},
		{2, 4, [4]int{1, 1}},
		{3, 3, [4]int{}},
		{4, 2, [4]int{1, 1, 1, 1}},
		{4, 2, [4]int{0, 1, 1, 0}},
	} {
		c := crowd{t: t, threads: x.threads, often: x.often, locks: x.locks}
		c.walk()
	}
}

// TestOrder: four hands come to a lock, one behind the other, by their Swaps, whichever of them began first; in this order they hold it.
func TestOrder(t *testing.T) {
	order := []int{2, 0, 3, 1}
	w := mem.New(make([]int64, wideSize)...)
	var hands [4]api.Hand
	for thread := range hands {
		hands[thread] = api.Hand{Thread: thread, Lock: 1}
		for range 3 {
			hands[thread] = mcs.Take(wide, w, hands[thread])
		}
	}
	for _, thread := range order {
		for range 2 {
			hands[thread] = mcs.Take(wide, w, hands[thread])
		}
		if got := mcs.Last(wide, w, 1); got != thread {
			t.Fatalf("thread %d has come, Last is %d", thread, got)
		}
	}
	for _, thread := range order {
		for range 4 {
			for other := range hands {
				hands[other] = mcs.Take(wide, w, hands[other])
			}
		}
		for other, h := range hands {
			if (h.State == api.HandHeld) != (other == thread) {
				t.Fatalf("at the turn of thread %d: %v", thread, hands)
			}
		}
		for range 2 {
			hands[thread] = mcs.Drop(wide, w, hands[thread])
		}
		if hands[thread] != (api.Hand{Thread: thread, Lock: 1}) {
			t.Fatalf("thread %d drops: %v", thread, hands)
		}
		hands[thread].Thread = -1 // It does not come again.
	}
	if got := mcs.Last(wide, w, 1); got != -1 {
		t.Errorf("all are out, Last is %d", got)
	}
}
