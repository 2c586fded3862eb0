package ticket_test

import (
	"math"
	"slices"
	"testing"

	"syncope/api"
	"syncope/mem"
	"syncope/place"
	"syncope/ticket"
)

// waiting is the State of a hand with a number that was not called yet.
const waiting = 1

// maps is some that may be, each with a lock at least.
func maps() []place.Map {
	return []place.Map{
		{Stripes: 1, Locks: 1, Threads: 1},
		{Stripes: 1, Locks: 2, Threads: 3, Data: 1},
		{Stripes: 7, Locks: 3, Threads: 2, Conds: 2, Data: 5},
		{Stripes: api.MaxStripes, Locks: api.MaxLocks, Threads: api.MaxThreads, Conds: api.MaxConds, Data: api.MaxData},
	}
}

// numbers is what may stand in Next, in Serving, in a hand's Word.
func numbers() []int64 {
	return []int64{math.MinInt64, math.MinInt64 + 1, -1 << 32, -2, -1, 0, 1, 2, 9, 1 << 32, math.MaxInt64 - 1, math.MaxInt64}
}

// outside is numbers that are not below many.
func outside(many int) []int {
	return []int{math.MinInt, math.MinInt + 1, -1 << 32, -many, -2, -1, many, many + 1, 256, 1 << 32, 1<<32 + 1, math.MaxInt - 1, math.MaxInt}
}

// wildStates is States that are none.
func wildStates() []int {
	return []int{math.MinInt, -9, -1, 2, 3, 4, 5, 6, 7, 8, 10, 11, 256, 256 + 9, 1 << 32, 1<<32 + 1, 1<<32 + 9, math.MaxInt}
}

// other is the words of a map, each another one, and none of them a number of the above.
func other(m place.Map) []int64 {
	words := make([]int64, place.Size(m))
	for a := range words {
		words[a] = int64(1000 + a)
	}
	return words
}

// call is Take or Drop.
type call struct {
	name string
	do   func(place.Map, *mem.Mem, api.Hand) api.Hand
}

func calls() []call { return []call{{"Take", ticket.Take}, {"Drop", ticket.Drop}} }

// does fails the test, unless the call of that hand is answered so, with that one access and no other (Kind 0: with none), at a memory of these words.
func does(t *testing.T, c call, m place.Map, words []int64, h, want api.Hand, done api.Access) {
	t.Helper()
	w := mem.New(words...)
	got := c.do(m, w, h)
	stands, steps := slices.Clone(words), 0
	switch done.Kind {
	case api.AAdd:
		stands[done.At] += done.Val
	case api.AStore:
		stands[done.At] = done.Val
	}
	if done.Kind != 0 {
		steps = 1
	}
	if got != want {
		t.Errorf("%v: %s of %v = %v, not %v", m, c.name, h, got, want)
	}
	if w.Last() != done || w.Steps() != steps {
		t.Errorf("%v: %s of %v: %d accesses, the last one %v, not %v", m, c.name, h, w.Steps(), w.Last(), done)
	}
	if !slices.Equal(w.All(), stands) {
		t.Errorf("%v: %s of %v leaves %v, not %v", m, c.name, h, w.All(), stands)
	}
}

// eachHand goes through the hands of each lock and each thread of each map, to read and to write, that have not begun.
func eachHand(do func(place.Map, api.Hand)) {
	for _, m := range maps() {
		for lock := range m.Locks {
			for thread := range m.Threads {
				do(m, api.Hand{Thread: thread, Lock: lock})
				do(m, api.Hand{Thread: thread, Lock: lock, Read: true})
			}
		}
	}
}

// at is that hand in a State, with a Word.
func at(h api.Hand, state int, word int64) api.Hand {
	h.State, h.Word = state, word
	return h
}

// 8.1

func TestExample(t *testing.T) {
	m := place.Map{Stripes: 1, Locks: 1, Threads: 1}
	w := mem.New(make([]int64, place.Size(m))...)
	if h := ticket.Take(m, w, api.Hand{}); h != (api.Hand{State: 1, Word: 0}) {
		t.Errorf("the first Take of a new lock: %v", h)
	}
}

func TestTakeDrawsANumber(t *testing.T) {
	take := calls()[0]
	eachHand(func(m place.Map, h api.Hand) {
		next := place.Lock(m, h.Lock, place.Next)
		words := other(m)
		for _, n := range numbers() {
			words[next] = n
			for _, word := range []int64{0, 5, n, math.MinInt64} {
				does(t, take, m, words, at(h, api.HandOut, word), at(h, waiting, n), api.Access{Kind: api.AAdd, At: next, Val: 1, Saw: n, Done: true})
			}
		}
	})
}

func TestTakeWaits(t *testing.T) {
	take := calls()[0]
	eachHand(func(m place.Map, h api.Hand) {
		serving := place.Lock(m, h.Lock, place.Serving)
		words := other(m)
		for _, called := range numbers() {
			words[serving] = called
			for _, word := range numbers() {
				state := waiting
				if word == called {
					state = api.HandHeld
				}
				does(t, take, m, words, at(h, waiting, word), at(h, state, word), api.Access{Kind: api.ALoad, At: serving, Val: called, Saw: called, Done: true})
			}
		}
	})
}

func TestDropCallsTheNext(t *testing.T) {
	drop := calls()[1]
	eachHand(func(m place.Map, h api.Hand) {
		serving := place.Lock(m, h.Lock, place.Serving)
		words := other(m)
		for _, word := range numbers() {
			behind := word + 1
			if word == math.MaxInt64 {
				behind = math.MinInt64
			}
			// Whatever is called: who holds the lock is believed, not asked again.
			for _, called := range []int64{word, 1, -7} {
				words[serving] = called
				does(t, drop, m, words, at(h, api.HandHeld, word), h, api.Access{Kind: api.AStore, At: serving, Val: behind, Saw: called, Done: true})
			}
		}
	})
}

// TestNothingToDo: hands that are where they are to be brought, and States that are none.
func TestNothingToDo(t *testing.T) {
	take, drop := calls()[0], calls()[1]
	eachHand(func(m place.Map, h api.Hand) {
		words := other(m)
		for _, word := range numbers() {
			words[place.Lock(m, h.Lock, place.Next)], words[place.Lock(m, h.Lock, place.Serving)] = word, word
			held, out, between := at(h, api.HandHeld, word), at(h, api.HandOut, word), at(h, waiting, word)
			does(t, take, m, words, held, held, api.Access{})
			does(t, drop, m, words, out, out, api.Access{})
			does(t, drop, m, words, between, between, api.Access{})
			for _, state := range wildStates() {
				none := at(h, state, word)
				does(t, take, m, words, none, none, api.Access{})
				does(t, drop, m, words, none, none, api.Access{})
			}
		}
	})
}

// TestNoSuchHand: threads and locks that are none, in each State.
func TestNoSuchHand(t *testing.T) {
	for _, m := range maps() {
		var wrong []api.Hand
		for _, n := range outside(m.Threads) {
			wrong = append(wrong, api.Hand{Thread: n}, api.Hand{Thread: n, Lock: m.Locks - 1, Read: true})
		}
		for _, n := range outside(m.Locks) {
			wrong = append(wrong, api.Hand{Lock: n}, api.Hand{Thread: m.Threads - 1, Lock: n, Read: true})
		}
		wrong = append(wrong, api.Hand{Thread: -1, Lock: -1}, api.Hand{Thread: m.Threads, Lock: m.Locks})
		for _, h := range wrong {
			for _, c := range calls() {
				for _, state := range []int{api.HandOut, waiting, api.HandHeld} {
					h = at(h, state, 6)
					does(t, c, m, other(m), h, h, api.Access{})
				}
			}
		}
	}
}

// badMaps is maps that may not be, and one without locks.
func badMaps() []place.Map {
	good := place.Map{Stripes: 2, Locks: 2, Threads: 2, Conds: 1, Data: 1}
	list := []place.Map{{}, {Stripes: 1, Threads: 4}}
	for field, limits := range [][2]int{{1, api.MaxStripes}, {0, api.MaxLocks}, {1, api.MaxThreads}, {0, api.MaxConds}, {0, api.MaxData}} {
		for _, n := range []int{math.MinInt, limits[0] - 1, limits[1] + 1, math.MaxInt} {
			bad := good
			*[]*int{&bad.Stripes, &bad.Locks, &bad.Threads, &bad.Conds, &bad.Data}[field] = n
			list = append(list, bad)
		}
	}
	return list
}

func TestNoSuchMap(t *testing.T) {
	words := make([]int64, api.MaxWords)
	for _, m := range badMaps() {
		for _, c := range calls() {
			for _, state := range []int{api.HandOut, waiting, api.HandHeld} {
				h := api.Hand{Thread: 1, Lock: 1, State: state}
				does(t, c, m, words, h, h, api.Access{})
			}
		}
		if w := mem.New(words...); ticket.Idle(m, w, 0) || ticket.Idle(m, w, 1) || w.Steps() != 0 {
			t.Errorf("%v: Idle", m)
		}
	}
}

func TestNoMemory(t *testing.T) {
	for _, m := range maps() {
		size := place.Size(m)
		words := make([]int64, size)
		for _, w := range []*mem.Mem{nil, {}, mem.New(), mem.New(0), mem.New(words[:size/2]...), mem.New(words[1:]...)} {
			for _, c := range calls() {
				for _, state := range []int{api.HandOut, waiting, api.HandHeld} {
					h := api.Hand{State: state, Read: true}
					if got := c.do(m, w, h); got != h {
						t.Errorf("%v: %s of %v at %d words = %v", m, c.name, h, w.Len(), got)
					}
				}
			}
			if ticket.Idle(m, w, 0) {
				t.Errorf("%v: Idle at %d words", m, w.Len())
			}
			if w.Steps() != 0 || slices.Max(append(w.All(), 0)) != 0 {
				t.Errorf("%v: %d accesses at %d words", m, w.Steps(), w.Len())
			}
		}
	}
}

// TestMoreMemory: one that has more words than the map is one.
func TestMoreMemory(t *testing.T) {
	m := place.Map{Stripes: 1, Locks: 1, Threads: 1}
	w := mem.New(make([]int64, place.Size(m)+1)...)
	h := ticket.Take(m, w, ticket.Take(m, w, api.Hand{}))
	if h.State != api.HandHeld || ticket.Idle(m, w, 0) {
		t.Errorf("taken: %v", h)
	}
	if h = ticket.Drop(m, w, h); h != (api.Hand{}) || !ticket.Idle(m, w, 0) || w.Steps() != 3 {
		t.Errorf("dropped: %v", h)
	}
}

// 8.2

func TestIdle(t *testing.T) {
	for _, m := range maps() {
		for lock := range m.Locks {
			words := other(m)
			for _, next := range numbers() {
				for _, serving := range numbers() {
					words[place.Lock(m, lock, place.Next)], words[place.Lock(m, lock, place.Serving)] = next, serving
					w := mem.New(words...)
					if got := ticket.Idle(m, w, lock); got != (next == serving) {
						t.Errorf("%v: Idle of lock %d, Next %d, Serving %d = %v", m, lock, next, serving, got)
					}
					if w.Steps() != 0 || w.Last() != (api.Access{}) || !slices.Equal(w.All(), words) {
						t.Errorf("%v: Idle makes accesses", m)
					}
				}
			}
			for l := range m.Locks {
				if l != lock && ticket.Idle(m, mem.New(words...), l) {
					t.Errorf("%v: Idle of lock %d asks lock %d", m, l, lock)
				}
			}
		}
		w := mem.New(make([]int64, place.Size(m))...)
		for _, lock := range outside(m.Locks) {
			if ticket.Idle(m, w, lock) {
				t.Errorf("%v: Idle of lock %d", m, lock)
			}
		}
	}
}

// 8.3

// stand is how far some threads are with two locks: the locks' words, the threads' hands, how often each thread took; and of each lock who has drawn a number and not given the lock back, in the order of the first steps, and how many these are.
type stand struct {
	next, serving [2]int64
	hands         [4]api.Hand
	took          [4]int
	line          [2][4]int
	long          [2]int
}

// crowd is so many threads, each of which takes its lock so often.
type crowd struct {
	t       *testing.T
	m       place.Map
	threads int
	often   int
	seen    map[stand]bool
	ended   int
}

// memory is a memory in which the locks stand so.
func (c *crowd) memory(s stand) *mem.Mem {
	words := make([]int64, place.Size(c.m))
	for lock := range c.m.Locks {
		words[place.Lock(c.m, lock, place.Next)], words[place.Lock(c.m, lock, place.Serving)] = s.next[lock], s.serving[lock]
	}
	return mem.New(words...)
}

// step is what comes of it if a thread goes on by one call.
func (c *crowd) step(s stand, thread int) stand {
	w, h := c.memory(s), s.hands[thread]
	lock := h.Lock
	if h.State == api.HandHeld {
		s.hands[thread] = ticket.Drop(c.m, w, h)
		c.leave(&s, lock, thread)
	} else {
		s.hands[thread] = ticket.Take(c.m, w, h)
		if h.State == api.HandOut {
			s.line[lock][s.long[lock]] = thread
			s.long[lock]++
			s.took[thread]++
		}
	}
	if w.Steps() != 1 {
		c.t.Errorf("%v goes on by %d accesses", h, w.Steps())
	}
	s.next[lock], s.serving[lock] = w.Peek(place.Lock(c.m, lock, place.Next)), w.Peek(place.Lock(c.m, lock, place.Serving))
	return s
}

// leave takes the first one out of a lock's line; it has to be that thread.
func (c *crowd) leave(s *stand, lock, thread int) {
	if s.long[lock] == 0 || s.line[lock][0] != thread {
		c.t.Fatalf("thread %d gives lock %d back, and was not the first: %v", thread, lock, *s)
	}
	copy(s.line[lock][:], s.line[lock][1:])
	s.line[lock][3] = 0
	s.long[lock]--
}

// judge holds a stand against the promise: nobody holds a lock but the first one in its line, who comes to hold it with the next call, and the lock is idle just if its line is empty.
func (c *crowd) judge(s stand) {
	for thread := range c.threads {
		h := s.hands[thread]
		first := s.long[h.Lock] > 0 && s.line[h.Lock][0] == thread
		if h.State == api.HandHeld && !first {
			c.t.Fatalf("thread %d holds lock %d, and is not the first: %v", thread, h.Lock, s)
		}
		if h.State == waiting {
			if got := ticket.Take(c.m, c.memory(s), h); got.State == api.HandHeld != first {
				c.t.Fatalf("thread %d, first or not (%v), comes to hold lock %d or not: %v", thread, first, h.Lock, got)
			}
		}
	}
	for lock := range c.m.Locks {
		if ticket.Idle(c.m, c.memory(s), lock) != (s.long[lock] == 0) {
			c.t.Fatalf("lock %d is idle, or not: %v", lock, s)
		}
	}
}

// walk goes through all that may come of a stand, whoever goes on.
func (c *crowd) walk(s stand) {
	if c.seen[s] {
		return
	}
	c.seen[s] = true
	c.judge(s)
	over := true
	for thread := range c.threads {
		if s.hands[thread].State == api.HandOut && s.took[thread] == c.often {
			continue
		}
		over = false
		c.walk(c.step(s, thread))
	}
	if over {
		c.ended++
	}
}

func TestTurns(t *testing.T) {
	for _, x := range []struct {
		threads, often int
		locks          [4]int // of each thread its own
	}{
		{1, 3, [4]int{}},
		{2, 4, [4]int{1, 1}},
		{3, 3, [4]int{}},
		{4, 2, [4]int{1, 1, 1, 1}},
		{4, 2, [4]int{0, 1, 1, 0}},
	} {
		for _, from := range []int64{0, -2, math.MaxInt64 - 1, math.MinInt64} {
			c := crowd{t: t, m: place.Map{Stripes: 1, Locks: 2, Threads: 4}, threads: x.threads, often: x.often, seen: map[stand]bool{}}
			s := stand{next: [2]int64{from, -from}, serving: [2]int64{from, -from}}
			for thread := range s.hands {
				s.hands[thread] = api.Hand{Thread: thread, Lock: x.locks[thread], Read: thread%2 == 1}
			}
			c.walk(s)
			if c.ended == 0 {
				t.Errorf("%v, from %d: nobody comes to the end", x, from)
			}
		}
	}
}
