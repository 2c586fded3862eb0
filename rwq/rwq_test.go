package rwq_test

import (
	"math"
	"slices"
	"testing"

	"syncope/api"
	"syncope/mcs"
	"syncope/mem"
	"syncope/place"
	"syncope/rwq"
)

// maps is some that may be, each with a lock at least.
func maps() []place.Map {
	return []place.Map{
		{Stripes: 1, Locks: 1, Threads: 1},
		{Stripes: 1, Locks: 2, Threads: 3, Data: 1},
		{Stripes: 7, Locks: 3, Threads: 2, Conds: 2, Data: 5},
		{Stripes: 5, Locks: 1, Threads: 4, Conds: 1},
		{Stripes: api.MaxStripes, Locks: api.MaxLocks, Threads: api.MaxThreads, Conds: api.MaxConds, Data: api.MaxData},
	}
}

// badMaps is maps that may not be, and one without locks.
func badMaps() []place.Map {
	list := []place.Map{{}, {Stripes: 1, Threads: 4}}
	for _, n := range []int{math.MinInt, -1, 41, math.MaxInt} {
		list = append(list,
			place.Map{Stripes: n, Locks: 2, Threads: 2},
			place.Map{Stripes: 1, Locks: n, Threads: 2},
			place.Map{Stripes: 1, Locks: 2, Threads: n},
			place.Map{Stripes: 1, Locks: 2, Threads: 2, Conds: n},
			place.Map{Stripes: 1, Locks: 2, Threads: 2, Data: n})
	}
	return list
}

// outside is numbers that are not below many.
func outside(many int) []int {
	return []int{math.MinInt, math.MinInt + 1, -1 << 32, -many, -2, -1, many, many + 1, 256, 1 << 32, 1<<32 + 1, math.MaxInt - 1, math.MaxInt}
}

// queued is what a State is called within the queue: on the way in, then, of a reader that is counted, on the way out.
func queued(state int) int {
	names := []int{0: 0, 1: 1, 2: 2, 3: 3, 4: 4, 5: 5, 11: 9, 12: 7, 13: 6, 14: 8}
	return names[state]
}

// call is Take or Drop, and the States in which it makes an access of a reader's hand, and of a writer's.
type call struct {
	name          string
	do            func(place.Map, *mem.Mem, api.Hand) api.Hand
	reads, writes []int
}

var (
	take  = call{"Take", rwq.Take, []int{0, 1, 2, 3, 4, 5, 10, 11, 12, 13, 14}, []int{0, 1, 2, 3, 4, 5, 10}}
	drop  = call{"Drop", rwq.Drop, []int{9}, []int{9, 7, 6, 8}}
	calls = []call{take, drop}
)

// onWay is the States in which a call makes an access of that hand, offWay those in which it makes none.
func (c call) onWay(h api.Hand) []int {
	if h.Read {
		return c.reads
	}
	return c.writes
}

func (c call) offWay(h api.Hand) []int {
	list := []int{math.MinInt, -9, -2, -1, 256, 256 + 3, 256 + 10, 1 << 32, 1<<32 + 1, 1<<32 + 9, 1<<32 + 11, math.MaxInt}
	for state := range 20 {
		if !slices.Contains(c.onWay(h), state) {
			list = append(list, state)
		}
	}
	return list
}

// other is the words of a map, each another one, and none of them a number of a node.
func other(m place.Map) []int64 {
	words := make([]int64, place.Size(m))
	for a := range words {
		words[a] = int64(1000 + a)
	}
	return words
}

// does fails the test, unless the call of that hand is answered so, with that one access and no other (Kind 0: with none), at a memory of these words.
func does(t *testing.T, c call, m place.Map, words []int64, h, want api.Hand, done api.Access) {
	t.Helper()
	w := mem.New(words...)
	got := c.do(m, w, h)
	stands, steps := slices.Clone(words), 0
	switch done.Kind {
	case api.AAdd:
		stands[done.At] += done.Val
	case api.AStore, api.ASwap:
		if done.Done {
			stands[done.At] = done.Val
		}
	}
	if done.Kind != 0 {
		steps = 1
	}
	if got != want {
		t.Errorf("%v: %s of %v = %v, not %v", m, c.name, h, got, want)
	}
	if w.Last() != done || w.Steps() != steps {
		t.Errorf("%v: %s of %v: %d accesses, the last one %v, not %v", m, c.name, h, w.Steps(), w.Last(), done)
	}
	if !slices.Equal(w.All(), stands) {
		t.Errorf("%v: %s of %v leaves %v, not %v", m, c.name, h, w.All(), stands)
	}
}

// load, add, store and swap are accesses as they are told.
func load(a int, saw int64) api.Access {
	return api.Access{Kind: api.ALoad, At: a, Val: saw, Saw: saw, Done: true}
}

func add(a int, saw, more int64) api.Access {
	return api.Access{Kind: api.AAdd, At: a, Val: more, Saw: saw, Done: true}
}

func store(a int, saw, val int64) api.Access {
	return api.Access{Kind: api.AStore, At: a, Val: val, Saw: saw, Done: true}
}

func swap(a int, saw, old, val int64) api.Access {
	return api.Access{Kind: api.ASwap, At: a, Val: val, Saw: saw, Done: saw == old}
}

// eachHand goes through the hands of each lock and each thread of each map, to read or to write, that have not begun.
func eachHand(read bool, do func(place.Map, api.Hand)) {
	for _, m := range maps() {
		for lock := range m.Locks {
			for thread := range m.Threads {
				do(m, api.Hand{Thread: thread, Lock: lock, Read: read})
			}
		}
	}
}

// at is that hand in a State, with a Word.
func at(h api.Hand, state int, word int64) api.Hand {
	h.State, h.Word = state, word
	return h
}

// anyWords is what may stand in a hand's Word, or in a word of the queue: the numbers of all nodes of the map, and what is none.
func anyWords(m place.Map) []int64 {
	list := []int64{math.MinInt64, -1 << 32, 1 << 32, 1<<32 + 1, math.MaxInt64}
	for n := int64(-2); n <= int64(m.Locks*m.Threads+2); n++ {
		list = append(list, n)
	}
	return list
}

// counts is what may stand in Readers.
func counts() []int64 {
	return []int64{math.MinInt64, math.MinInt64 + 1, -1 << 32, -256, -2, -1, 0, 1, 2, 3, 4, 5, 256, 1 << 32, math.MaxInt64 - 1, math.MaxInt64}
}

// asQueued fails the test, unless rwq does what the queue does, of any Word and whatever stands in the queue's words, of a hand that rwq knows in one State and the queue in another; known is what rwq calls the State in which the queue leaves it.
func asQueued(t *testing.T, c, queue call, m place.Map, h, inQueue api.Hand, known func(int) int) {
	t.Helper()
	words := other(m)
	parts := []int{place.Lock(m, h.Lock, place.Tail), place.Node(m, h.Thread, h.Lock, place.Gate), place.Node(m, h.Thread, h.Lock, place.Link)}
	for _, stands := range anyWords(m) {
		for _, part := range parts {
			words[part] = stands
		}
		for _, word := range anyWords(m) {
			w := mem.New(words...)
			want := queue.do(m, w, at(inQueue, inQueue.State, word))
			want.State = known(want.State)
			does(t, c, m, words, at(h, h.State, word), want, w.Last())
		}
	}
}

var (
	queueTake = call{name: "Take", do: mcs.Take}
	queueDrop = call{name: "Drop", do: mcs.Drop}
)

// step is what a call has to answer (State, Word), and the access that it has to make.
type step struct {
	c     call
	state int
	word  int64
	done  api.Access
}

// walks fails the test, unless a hand goes on by these steps, one behind the other.
func walks(t *testing.T, m place.Map, w *mem.Mem, h api.Hand, list []step) api.Hand {
	t.Helper()
	for i, s := range list {
		ahead, steps := h, w.Steps()
		h = s.c.do(m, w, ahead)
		if h != at(ahead, s.state, s.word) || w.Last() != s.done || w.Steps() != steps+1 {
			t.Errorf("step %d: %s of %v = %v, by %d accesses, the last one %v", i, s.c.name, ahead, h, w.Steps()-steps, w.Last())
		}
	}
	return h
}

// 10.1

// TestReaderOfANewLock: four steps in the queue, one to be counted, two out of the queue; and one to give it back.
func TestReaderOfANewLock(t *testing.T) {
	m := place.Map{Stripes: 1, Locks: 2, Threads: 2}
	tail, readers := place.Lock(m, 1, place.Tail), place.Lock(m, 1, place.Readers)
	gate, link := place.Node(m, 1, 1, place.Gate), place.Node(m, 1, 1, place.Link)
	w := mem.New(make([]int64, place.Size(m))...)
	h := walks(t, m, w, api.Hand{Thread: 1, Lock: 1, Read: true}, []step{
		{take, 1, 0, store(gate, 0, 1)},
		{take, 2, 0, store(link, 0, 0)},
		{take, 3, 0, load(tail, 0)},
		{take, 10, 0, swap(tail, 0, 0, 4)},
		{take, 11, 0, add(readers, 0, 1)},
		{take, 12, 0, load(link, 0)},
		{take, 9, 0, swap(tail, 4, 4, 0)},
	})
	if got := rwq.Inside(m, w, 1); got != 1 || mcs.Last(m, w, 1) != -1 {
		t.Errorf("%d are inside, and in the queue %d", got, mcs.Last(m, w, 1))
	}
	walks(t, m, w, h, []step{{drop, 0, 0, add(readers, 1, -1)}})
	if got := rwq.Inside(m, w, 1); got != 0 {
		t.Errorf("%d are inside", got)
	}
}

func TestWriterOfANewLock(t *testing.T) {
	m := place.Map{Stripes: 1, Locks: 2, Threads: 2}
	tail, readers := place.Lock(m, 0, place.Tail), place.Lock(m, 0, place.Readers)
	gate, link := place.Node(m, 1, 0, place.Gate), place.Node(m, 1, 0, place.Link)
	w := mem.New(make([]int64, place.Size(m))...)
	h := walks(t, m, w, api.Hand{Thread: 1}, []step{
		{take, 1, 0, store(gate, 0, 1)},
		{take, 2, 0, store(link, 0, 0)},
		{take, 3, 0, load(tail, 0)},
		{take, 10, 0, swap(tail, 0, 0, 3)},
		{take, 9, 0, load(readers, 0)},
	})
	if got := rwq.Inside(m, w, 0); got != 0 || mcs.Last(m, w, 0) != 1 {
		t.Errorf("%d are inside, and in the queue %d", got, mcs.Last(m, w, 0))
	}
	walks(t, m, w, h, []step{
		{drop, 7, 0, load(link, 0)},
		{drop, 0, 0, swap(tail, 3, 3, 0)},
	})
}

// TestReaderWithOneBehind: a reader leaves the queue to the one that has come behind it, once that one has told it.
func TestReaderWithOneBehind(t *testing.T) {
	m := place.Map{Stripes: 1, Locks: 1, Threads: 2}
	tail, link := place.Lock(m, 0, place.Tail), place.Node(m, 0, 0, place.Link)
	w := mem.New(make([]int64, place.Size(m))...)
	ahead, behind := api.Hand{Read: true}, api.Hand{Thread: 1, Read: true}
	for range 6 {
		ahead = rwq.Take(m, w, ahead)
	}
	for range 4 {
		behind = rwq.Take(m, w, behind)
	}
	ahead = walks(t, m, w, ahead, []step{
		{take, 13, 0, swap(tail, 2, 1, 0)},
		{take, 13, 0, load(link, 0)},
	})
	behind = walks(t, m, w, behind, []step{{take, 5, 0, store(link, 0, 2)}})
	gate := place.Node(m, 1, 0, place.Gate)
	walks(t, m, w, ahead, []step{
		{take, 14, 2, load(link, 2)},
		{take, 9, 0, store(gate, 1, 0)},
	})
	walks(t, m, w, behind, []step{
		{take, 10, 0, load(gate, 0)},
		{take, 11, 0, add(place.Lock(m, 0, place.Readers), 1, 1)},
	})
}

func TestTakeGoesThroughTheQueue(t *testing.T) {
	for _, read := range []bool{false, true} {
		eachHand(read, func(m place.Map, h api.Hand) {
			for state := range 6 {
				h.State = state
				asQueued(t, take, queueTake, m, h, at(h, queued(state), 0), func(state int) int {
					if state == api.HandHeld {
						return 10
					}
					return state
				})
			}
		})
	}
}

// TestWriterWaitsForReaders: it holds the lock once no reader is inside.
func TestWriterWaitsForReaders(t *testing.T) {
	eachHand(false, func(m place.Map, h api.Hand) {
		readers := place.Lock(m, h.Lock, place.Readers)
		words := other(m)
		for _, n := range counts() {
			words[readers] = n
			state := 10
			if n == 0 {
				state = api.HandHeld
			}
			for _, word := range anyWords(m) {
				does(t, take, m, words, at(h, 10, word), at(h, state, word), load(readers, n))
			}
		}
	})
}

// TestReaderIsCounted: however many are inside.
func TestReaderIsCounted(t *testing.T) {
	eachHand(true, func(m place.Map, h api.Hand) {
		readers := place.Lock(m, h.Lock, place.Readers)
		words := other(m)
		for _, n := range counts() {
			words[readers] = n
			for _, word := range anyWords(m) {
				does(t, take, m, words, at(h, 10, word), at(h, 11, word), add(readers, n, 1))
			}
		}
	})
}

func TestReaderLeavesTheQueue(t *testing.T) {
	eachHand(true, func(m place.Map, h api.Hand) {
		for state := 11; state <= 14; state++ {
			h.State = state
			asQueued(t, take, queueDrop, m, h, at(h, queued(state), 0), func(state int) int {
				if state == api.HandOut {
					return api.HandHeld
				}
				for known := 11; known <= 14; known++ {
					if queued(known) == state {
						return known
					}
				}
				return -1
			})
		}
	})
}

// 10.2

func TestReaderDrops(t *testing.T) {
	eachHand(true, func(m place.Map, h api.Hand) {
		readers := place.Lock(m, h.Lock, place.Readers)
		words := other(m)
		for _, n := range counts() {
			words[readers] = n
			for _, word := range anyWords(m) {
				does(t, drop, m, words, at(h, api.HandHeld, word), at(h, api.HandOut, word), add(readers, n, -1))
			}
		}
	})
}

func TestWriterDrops(t *testing.T) {
	eachHand(false, func(m place.Map, h api.Hand) {
		for _, state := range drop.onWay(h) {
			h.State = state
			asQueued(t, drop, queueDrop, m, h, h, func(state int) int { return state })
		}
	})
}

func TestInside(t *testing.T) {
	for _, m := range maps() {
		for lock := range m.Locks {
			words := other(m)
			for _, n := range counts() {
				words[place.Lock(m, lock, place.Readers)] = n
				w := mem.New(words...)
				if got := rwq.Inside(m, w, lock); got != n {
					t.Errorf("%v: Inside of lock %d = %d, not %d", m, lock, got, n)
				}
				if w.Steps() != 0 || w.Last() != (api.Access{}) || !slices.Equal(w.All(), words) {
					t.Errorf("%v: Inside of lock %d makes accesses", m, lock)
				}
			}
		}
		for _, lock := range outside(m.Locks) {
			if got := rwq.Inside(m, mem.New(other(m)...), lock); got != 0 {
				t.Errorf("%v: Inside of lock %d = %d", m, lock, got)
			}
		}
	}
}

// 10.1 and 10.2, of what is none

// TestNothingToDo: hands that are where they are to be brought, and States that are none; those of the other kind of hand are.
func TestNothingToDo(t *testing.T) {
	for _, read := range []bool{false, true} {
		eachHand(read, func(m place.Map, h api.Hand) {
			for _, c := range calls {
				for _, state := range c.offWay(h) {
					for _, word := range []int64{0, mcs.Id(m, h.Thread, h.Lock), math.MinInt64} {
						none := at(h, state, word)
						does(t, c, m, other(m), none, none, api.Access{})
						does(t, c, m, make([]int64, place.Size(m)), none, none, api.Access{})
					}
				}
			}
		})
	}
}

// staysIn fails the test, unless all calls answer that hand as it is, without an access, in each State in which they would make one of a hand that is one.
func staysIn(t *testing.T, m place.Map, words []int64, h api.Hand) {
	t.Helper()
	for _, read := range []bool{false, true} {
		h.Read = read
		for _, c := range calls {
			for _, state := range c.onWay(h) {
				none := at(h, state, 1)
				does(t, c, m, words, none, none, api.Access{})
			}
		}
	}
}

func TestNoSuchHand(t *testing.T) {
	for _, m := range maps() {
		for _, n := range outside(m.Threads) {
			staysIn(t, m, other(m), api.Hand{Thread: n})
			staysIn(t, m, other(m), api.Hand{Thread: n, Lock: m.Locks - 1})
		}
		for _, n := range outside(m.Locks) {
			staysIn(t, m, other(m), api.Hand{Lock: n})
			staysIn(t, m, other(m), api.Hand{Thread: m.Threads - 1, Lock: n})
		}
		staysIn(t, m, other(m), api.Hand{Thread: -1, Lock: -1})
	}
}

func TestNoSuchMap(t *testing.T) {
	words := slices.Repeat([]int64{1}, api.MaxWords)
	for _, m := range badMaps() {
		staysIn(t, m, words, api.Hand{})
		staysIn(t, m, words, api.Hand{Thread: 1, Lock: 1})
		if w := mem.New(words...); rwq.Inside(m, w, 0) != 0 || rwq.Inside(m, w, 1) != 0 || w.Steps() != 0 {
			t.Errorf("%v: Inside", m)
		}
	}
}

// TestNoMemory: in one that is shorter than the map nothing is turned, though the words that a call asks for may be there.
func TestNoMemory(t *testing.T) {
	for _, m := range maps() {
		words := slices.Repeat([]int64{1}, place.Size(m))
		for _, short := range [][]int64{{}, {1}, words[:len(words)/2], words[1:]} {
			staysIn(t, m, short, api.Hand{})
			if got := rwq.Inside(m, mem.New(short...), 0); got != 0 {
				t.Errorf("%v: Inside at %d words = %d", m, len(short), got)
			}
		}
		for _, w := range []*mem.Mem{nil, {}} {
			for _, h := range []api.Hand{{}, {Read: true}} {
				for _, c := range calls {
					for _, state := range c.onWay(h) {
						none := at(h, state, 1)
						if got := c.do(m, w, none); got != none {
							t.Errorf("%v: %s of %v without words = %v", m, c.name, none, got)
						}
					}
				}
			}
			if rwq.Inside(m, w, 0) != 0 || w.Steps() != 0 {
				t.Errorf("%v: Inside without words", m)
			}
		}
	}
}

// TestMoreMemory: one that has more words than the map is one.
func TestMoreMemory(t *testing.T) {
	m := place.Map{Stripes: 1, Locks: 1, Threads: 1}
	w := mem.New(make([]int64, place.Size(m)+1)...)
	h := api.Hand{Read: true}
	for range 7 {
		h = rwq.Take(m, w, h)
	}
	if h.State != api.HandHeld || rwq.Inside(m, w, 0) != 1 {
		t.Errorf("taken: %v", h)
	}
	if h = rwq.Drop(m, w, h); h != (api.Hand{Read: true}) || rwq.Inside(m, w, 0) != 0 || w.Steps() != 8 {
		t.Errorf("dropped: %v", h)
	}
}
