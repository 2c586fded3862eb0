package stripe_test

import (
	"testing"

	"syncope/api"
	"syncope/mem"
	"syncope/place"
	"syncope/stripe"
)

// 12.3

// TestOneWordTellsBoth: each version and each holder, nobody too, have a word of their own, which tells them again.
func TestOneWordTellsBoth(t *testing.T) {
	type both struct {
		version int64
		holder  int
	}
	seen := map[int64]both{}
	for _, v := range versions() {
		if v < -1<<59 || v >= 1<<59 {
			continue
		}
		for holder := -1; holder < api.MaxThreads; holder++ {
			x := stripe.Taken(stripe.Free(v), holder)
			if stripe.Version(x) != v || stripe.Holder(x) != holder {
				t.Errorf("%d, %d: %d tells %d, %d", v, holder, x, stripe.Version(x), stripe.Holder(x))
			}
			if was, ok := seen[x]; ok {
				t.Errorf("%d, %d: %d is the word of %v, too", v, holder, x, was)
			}
			seen[x] = both{v, holder}
		}
	}
}

// TestTakenAsSeen: a Swap takes a stripe just if neither its version nor its holder is another one by now.
func TestTakenAsSeen(t *testing.T) {
	for was := range int64(3) {
		for now := range int64(3) {
			for holder := -1; holder < api.MaxThreads; holder++ {
				for thread := range api.MaxThreads {
					w := mem.New(stripe.Taken(stripe.Free(now), holder))
					x := stripe.Free(was)
					_, done, _ := w.Swap(0, x, stripe.Taken(x, thread))
					if want := was == now && holder == -1; done != want {
						t.Errorf("seen %d, stands %d held by %d: %v", was, now, holder, done)
					}
					if got := w.Peek(0); done && (stripe.Version(got) != was || stripe.Holder(got) != thread) {
						t.Errorf("%d takes %d: %d", thread, was, got)
					}
				}
			}
		}
	}
}

// What the threads of these tests do.
const (
	writes = iota // takes the stripe, writes both words, gives it back one version on
	quits         // takes the stripe, and gives it back as it was
	reads         // reads both words, and looks behind each whether the stripe is as it was
)

// States of a thread: how far it is.
const (
	begun = iota
	seen  // the stripe's word is known
	held  // of one that writes or quits: the stripe is its own
	first // one word is written, or read
	both  // so are both
	again // of one that reads: it looks at the stripe between its words
)

// The words of these tests: two of one stripe.
var (
	one    = place.Map{Stripes: 1, Threads: 4, Data: 2}
	at     = place.Stripe(one, 0)
	places = [2]int{place.Data(one, 0), place.Data(one, 1)}
)

// stand is how far some threads are: the stripe, and its two words; of each thread its State, the stripe's word as it saw it, the two words as it read them, and how often it has come to its end.
type stand struct {
	stripe            int64
	words             [2]int64
	state, word, ends [4]int64
	read              [4][2]int64
}

// crowd is some threads, each of which does its work so many times; those that read do so of one stamp.
type crowd struct {
	t                  *testing.T
	kinds              []int
	often, stamp       int64
	took, lost         int // Swaps that did it, and that did not
	whole, stale, late int // reads that came to both words; that found the stripe too new; that found it another one in between
}

// memory is a memory as a stand has it.
func memory(s stand) *mem.Mem {
	words := make([]int64, place.Size(one))
	words[at], words[places[0]], words[places[1]] = s.stripe, s.words[0], s.words[1]
	return mem.New(words...)
}

// step is what comes of it if a thread goes on by one access.
func (c *crowd) step(s stand, thread int) stand {
	w := memory(s)
	switch c.kinds[thread] {
	case reads:
		c.reader(w, &s, thread)
	default:
		c.writer(w, &s, thread)
	}
	if w.Steps() != 1 {
		c.t.Fatalf("thread %d goes on by %d accesses: %v", thread, w.Steps(), s)
	}
	s.stripe, s.words = w.Peek(at), [2]int64{w.Peek(places[0]), w.Peek(places[1])}
	return s
}

// end is a thread at the end of its work, ready for more of it.
func (s *stand) end(thread int) {
	s.anew(thread)
	s.ends[thread]++
}

// anew is a thread that has seen nothing.
func (s *stand) anew(thread int) {
	s.state[thread], s.word[thread], s.read[thread] = begun, 0, [2]int64{}
}

// writer is a step of one that writes, or quits.
func (c *crowd) writer(w *mem.Mem, s *stand, thread int) {
	x := s.word[thread]
	next := stripe.Version(x) + 1
	switch s.state[thread] {
	case begun:
		if x, _ = w.Load(at); stripe.Holder(x) == -1 {
			s.word[thread], s.state[thread] = x, seen
		}
	case seen:
		if _, done, _ := w.Swap(at, x, stripe.Taken(x, thread)); done {
			c.took++
			s.state[thread] = held
			return
		}
		c.lost++
		s.anew(thread)
	case held:
		if c.kinds[thread] == quits {
			w.Store(at, x)
			s.end(thread)
			return
		}
		w.Store(places[0], next)
		s.state[thread] = first
	case first:
		w.Store(places[1], next)
		s.state[thread] = both
	case both:
		w.Store(at, stripe.Free(next))
		s.end(thread)
	}
}

// reader is a step of one that reads; it comes to its end where the stripe is too new for it, and begins anew where the stripe is held, or was taken in between.
func (c *crowd) reader(w *mem.Mem, s *stand, thread int) {
	x := s.word[thread]
	switch s.state[thread] {
	case begun:
		x, _ = w.Load(at)
		switch stripe.Fresh(x, c.stamp) {
		case api.CStale:
			c.stale++
			s.end(thread)
		case 0:
			s.word[thread], s.state[thread] = x, seen
		}
	case seen:
		s.read[thread][0], _ = w.Load(places[0])
		s.state[thread] = again
	case first:
		s.read[thread][1], _ = w.Load(places[1])
		s.state[thread] = both
	case again, both:
		now, _ := w.Load(at)
		switch {
		case now != x:
			c.late++
			s.anew(thread)
		case s.state[thread] == again:
			s.state[thread] = first
		default:
			c.whole++
			c.same(*s, thread)
			s.end(thread)
		}
	}
}

// same holds what one has read against the promise: as the stripe is still as it was, both words are of the version that it saw, which is not above its stamp.
func (c *crowd) same(s stand, thread int) {
	version := stripe.Version(s.word[thread])
	if s.read[thread] != [2]int64{version, version} || version > c.stamp {
		c.t.Fatalf("thread %d reads %v at version %d: %v", thread, s.read[thread], version, s)
	}
}

// judge holds a stand against the promise: the stripe's word names the one thread that holds it, or nobody, and counts those that have written.
func (c *crowd) judge(s stand) {
	holder, written := -1, int64(0)
	for thread, kind := range c.kinds {
		if kind == writes {
			written += s.ends[thread]
		}
		if kind == reads || s.state[thread] < held {
			continue
		}
		if holder != -1 {
			c.t.Fatalf("%d and %d hold the stripe: %v", holder, thread, s)
		}
		holder = thread
	}
	if stripe.Holder(s.stripe) != holder || stripe.Version(s.stripe) != written {
		c.t.Fatalf("the stripe tells %d, %d, not %d, %d: %v", stripe.Version(s.stripe), stripe.Holder(s.stripe), written, holder, s)
	}
	if holder == -1 && s.words != [2]int64{written, written} {
		c.t.Fatalf("nobody holds the stripe, and %d have written: %v", written, s)
	}
}

// walk goes through all that may come of it, whoever goes on.
func (c *crowd) walk() {
	begin := stand{stripe: stripe.Free(0)}
	known, list, ended := map[stand]bool{begin: true}, []stand{begin}, 0
	for len(list) > 0 {
		s := list[len(list)-1]
		list = list[:len(list)-1]
		c.judge(s)
		over, stuck := true, true
		for thread := range c.kinds {
			if s.ends[thread] == c.often {
				continue
			}
			on := c.step(s, thread)
			over, stuck = false, stuck && on == s
			if !known[on] {
				known[on] = true
				list = append(list, on)
			}
		}
		switch {
		case over:
			ended++
		case stuck:
			c.t.Fatalf("nobody goes on: %v", s)
		}
	}
	if ended == 0 {
		c.t.Errorf("%v: nobody comes to the end", c.kinds)
	}
}

// TestTakenByOne: all ways in which some threads may take a stripe, and read by it.
func TestTakenByOne(t *testing.T) {
	for _, x := range []struct {
		kinds        []int
		often, stamp int64
	}{
		{[]int{writes}, 4, 9},
		{[]int{writes, writes}, 3, 9},
		{[]int{writes, writes, writes, writes}, 2, 9},
		{[]int{quits, writes, quits, writes}, 2, 9},
		{[]int{writes, reads}, 4, 9},
		{[]int{writes, reads}, 4, 2},
		{[]int{quits, reads, writes}, 2, 9},
		{[]int{writes, reads, writes, reads}, 1, 9},
		{[]int{reads, writes, quits, writes}, 1, 1},
	} {
		c := crowd{t: t, kinds: x.kinds, often: x.often, stamp: x.stamp}
		c.walk()
		c.told()
	}
}

// told fails the test, unless all happened that may.
func (c *crowd) told() {
	writers, readers, wrote := 0, 0, int64(0)
	for _, kind := range c.kinds {
		switch kind {
		case reads:
			readers++
		case writes:
			wrote += c.often
			fallthrough
		case quits:
			writers++
		}
	}
	if c.took == 0 || (c.lost > 0) != (writers > 1) {
		c.t.Errorf("%v: %d Swaps did it, %d did not", c.kinds, c.took, c.lost)
	}
	if (c.whole > 0) != (readers > 0) || (c.late > 0) != (readers > 0) || (c.stale > 0) != (readers > 0 && wrote > c.stamp) {
		c.t.Errorf("%v: %d read both words, %d were too late, %d stale", c.kinds, c.whole, c.late, c.stale)
	}
}
