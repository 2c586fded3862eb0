package rwq_test

import (
	"slices"
	"testing"

	"syncope/api"
	"syncope/mcs"
	"syncope/mem"
	"syncope/place"
	"syncope/rwq"
)

// 10.3

// wide is the map of the crowds, wideSize its Size.
var wide = place.Map{Stripes: 1, Locks: 2, Threads: 4}

const wideSize = 43

// stand is how far some threads are with two locks: all words, of each thread its hand's State and Word and how often it took; and of each lock who has come into its queue and is not out of it, in the order of the Swaps, and how many these are. (In few bytes: there are many.)
type stand struct {
	words             [wideSize]int8
	state, word, took [4]int8
	line              [2][4]int8
	long              [2]int8
}

// crowd is so many threads, each of which takes its lock so often.
type crowd struct {
	t        *testing.T
	threads  int
	often    int8
	locks    [4]int // of each thread its own
	read     [4]bool
	together int // how many held a lock at once, at most
}

// memory is a memory that stands so.
func memory(s stand) *mem.Mem {
	var words [wideSize]int64
	for a, word := range s.words {
		words[a] = int64(word)
	}
	return mem.New(words[:]...)
}

// hand is a thread's.
func (c *crowd) hand(s stand, thread int) api.Hand {
	return api.Hand{Thread: thread, Lock: c.locks[thread], Read: c.read[thread], State: int(s.state[thread]), Word: int64(s.word[thread])}
}

// holds tells whether a hand has the lock: from its State 9 on until it is out. (A reader's State is below 9 only on its way in.)
func holds(h api.Hand) bool { return slices.Contains(drop.onWay(h), h.State) }

// counted tells whether a hand is one of a reader that is inside.
func counted(h api.Hand) bool { return h.Read && (holds(h) || h.State >= 11) }

// inQueue tells whether a hand has the queue to itself.
func inQueue(h api.Hand) bool { return h.State >= 10 || !h.Read && holds(h) }

// step is what comes of it if a thread goes on by one call.
func (c *crowd) step(s stand, thread int) stand {
	w, h := memory(s), c.hand(s, thread)
	goOn := rwq.Take
	if holds(h) {
		goOn = rwq.Drop
	}
	on := goOn(wide, w, h)
	if w.Steps() != 1 {
		c.t.Fatalf("%v goes on by %d accesses: %v", h, w.Steps(), s)
	}
	if h.State == 3 && w.Last().Done {
		s.line[h.Lock][s.long[h.Lock]] = int8(thread)
		s.long[h.Lock]++
		s.took[thread]++
	}
	s.state[thread], s.word[thread] = int8(on.State), int8(on.Word)
	if int64(s.word[thread]) != on.Word || on != c.hand(s, thread) {
		c.t.Fatalf("%v goes on as %v", h, on)
	}
	for a, word := range w.All() {
		s.words[a] = int8(word)
	}
	if inQueue(h) && !inQueue(on) {
		c.leave(&s, h.Lock, thread)
	}
	return s
}

// leave takes the first one out of a lock's line; it has to be that thread.
func (c *crowd) leave(s *stand, lock, thread int) {
	if s.long[lock] == 0 || int(s.line[lock][0]) != thread {
		c.t.Fatalf("thread %d comes out of the queue of lock %d, and was not the first: %v", thread, lock, *s)
	}
	copy(s.line[lock][:], s.line[lock][1:])
	s.line[lock][3] = 0
	s.long[lock]--
}

// judge holds a stand against the promise: a writer that holds a lock is alone; Inside tells how many readers are counted, Last who is the last one in the queue; who has the queue is the first one in its line.
func (c *crowd) judge(s stand) {
	var writers, readers, together [2]int
	for thread := range c.threads {
		h := c.hand(s, thread)
		if holds(h) {
			together[h.Lock]++
		}
		if holds(h) && !h.Read {
			writers[h.Lock]++
		}
		if counted(h) {
			readers[h.Lock]++
		}
		if inQueue(h) && (s.long[h.Lock] == 0 || int(s.line[h.Lock][0]) != thread) {
			c.t.Fatalf("thread %d has the queue of lock %d, and is not the first: %v", thread, h.Lock, s)
		}
	}
	w := memory(s)
	for lock := range wide.Locks {
		if writers[lock] > 1 || writers[lock] == 1 && readers[lock] > 0 {
			c.t.Fatalf("lock %d has %d writers and %d readers: %v", lock, writers[lock], readers[lock], s)
		}
		if got := rwq.Inside(wide, w, lock); got != int64(readers[lock]) {
			c.t.Fatalf("Inside of lock %d = %d, not %d: %v", lock, got, readers[lock], s)
		}
		want := -1
		if long := s.long[lock]; long > 0 {
			want = int(s.line[lock][long-1])
		}
		if got := mcs.Last(wide, w, lock); got != want {
			c.t.Fatalf("the last one at lock %d is %d, not %d: %v", lock, got, want, s)
		}
		c.together = max(c.together, together[lock])
	}
}

// goesOn holds the step of a thread against the promise: the first one in the queue waits for nobody, if it reads; if it writes, for the readers that are inside.
func (c *crowd) goesOn(s, on stand, thread int) {
	h := c.hand(s, thread)
	if h.State != 10 {
		return
	}
	free := h.Read || rwq.Inside(wide, memory(s), h.Lock) == 0
	if (on == s) == free {
		c.t.Fatalf("thread %d goes on at lock %d, or not: %v", thread, h.Lock, s)
	}
}

// walk goes through all that may come of a new memory, whoever goes on.
func (c *crowd) walk() {
	seen, list, ended := map[stand]bool{{}: true}, []stand{{}}, 0
	for len(list) > 0 {
		s := list[len(list)-1]
		list = list[:len(list)-1]
		c.judge(s)
		over, stuck := true, true
		for thread := range c.threads {
			if s.state[thread] == api.HandOut && s.took[thread] == c.often {
				continue
			}
			on := c.step(s, thread)
			c.goesOn(s, on, thread)
			over, stuck = false, stuck && on == s
			if !seen[on] {
				seen[on] = true
				list = append(list, on)
			}
		}
		switch {
		case over:
			ended++
		case stuck:
			c.t.Fatalf("nobody goes on: %v", s)
		}
	}
	if ended == 0 {
		c.t.Errorf("%v: nobody comes to the end", *c)
	}
}

func TestTurns(t *testing.T) {
	if place.Size(wide) != wideSize {
		t.Fatal(place.Size(wide))
	}
	const r, w = true, false
	for _, x := range []struct {
		threads  int
		often    int8
		locks    [4]int
		read     [4]bool
		together int
	}{
		{1, 3, [4]int{}, [4]bool{r}, 1},
		{1, 3, [4]int{}, [4]bool{w}, 1},
		{2, 4, [4]int{1, 1}, [4]bool{r, w}, 1},
		{2, 4, [4]int{1, 1}, [4]bool{r, r}, 2},
		{3, 2, [4]int{}, [4]bool{r, w, r}, 2},
		{3, 2, [4]int{}, [4]bool{w, r, w}, 1},
		{3, 2, [4]int{1, 1, 1}, [4]bool{r, r, r}, 3},
		{4, 1, [4]int{1, 1, 1, 1}, [4]bool{r, r, w, r}, 3},
		{4, 1, [4]int{}, [4]bool{w, r, w, r}, 2},
		{4, 1, [4]int{}, [4]bool{r, r, r, r}, 4},
		{4, 2, [4]int{0, 1, 1, 0}, [4]bool{r, w, r, r}, 2},
	} {
		c := crowd{t: t, threads: x.threads, often: x.often, locks: x.locks, read: x.read}
		c.walk()
		if c.together != x.together {
			t.Errorf("%v: %d hold a lock at once, at most, not %d", x, c.together, x.together)
		}
	}
}

// TestNobodyPassesAWriter: a reader that comes behind a writer waits for it, though others read.
func TestNobodyPassesAWriter(t *testing.T) {
	w := mem.New(make([]int64, wideSize)...)
	reader, writer, late := api.Hand{Read: true}, api.Hand{Thread: 1}, api.Hand{Thread: 2, Read: true}
	for _, h := range []*api.Hand{&reader, &writer, &late} {
		for range 9 {
			*h = rwq.Take(wide, w, *h)
		}
	}
	if reader.State != api.HandHeld || writer.State != 10 || late.State != 5 {
		t.Fatalf("one reads: %v, %v, %v", reader, writer, late)
	}
	reader = rwq.Drop(wide, w, reader)
	for range 9 {
		late = rwq.Take(wide, w, late)
		writer = rwq.Take(wide, w, writer)
	}
	if reader.State != api.HandOut || writer.State != api.HandHeld || late.State != 5 {
		t.Fatalf("one writes: %v, %v, %v", reader, writer, late)
	}
	for range 2 {
		writer = rwq.Drop(wide, w, writer)
	}
	for range 4 {
		late = rwq.Take(wide, w, late)
	}
	if writer.State != api.HandOut || late.State != api.HandHeld || rwq.Inside(wide, w, 0) != 1 {
		t.Fatalf("the late one reads: %v, %v", writer, late)
	}
}
