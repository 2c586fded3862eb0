package words_test

import (
	"testing"

	"syncope/api"
	"syncope/mem"
	"syncope/place"
	"syncope/words"
)

// 17.2, and what T3 of DOC.md needs of it.

// moment is who holds the lock after each Mark, and what its words say then.
type moment struct {
	there [api.MaxThreads]bool
	saw   map[int]int64
}

// crowd is threads that come to hold one lock and leave it, over and over, in all orders: of those who read several may be there, of the others one alone.
type crowd struct {
	t     *testing.T
	w     *mem.Mem
	rw    bool
	reads []bool
	left  []int // how many Marks of each thread are to come
	past  []moment
}

// now is what stands at the words of the lock.
func (c *crowd) now() moment {
	m := moment{saw: map[int]int64{}}
	for t := range c.left {
		m.there[t] = c.left[t]%2 == 1
	}
	for _, at := range words.Watched(some, 1, true, false) {
		m.saw[at] = c.w.Peek(at)
	}
	return m
}

// may tells whether a thread's next Mark may come: leaving may, coming only where nobody is there that it must not be beside.
func (c *crowd) may(thread int) bool {
	if c.left[thread] == 0 {
		return false
	}
	if c.left[thread]%2 == 1 {
		return true
	}
	for other := range c.left {
		if c.left[other]%2 == 1 && !(c.reads[thread] && c.reads[other]) {
			return false
		}
	}
	return true
}

// mark is a thread's next one, by which its word is changed.
func (c *crowd) mark(thread int, back int64) {
	leave := c.left[thread]%2 == 1
	at, by := words.Mark(some, 1, c.reads[thread], leave)
	c.w.Add(at, by*back)
}

// run is all that may come from here on.
func (c *crowd) run() {
	c.past = append(c.past, c.now())
	c.look()
	for thread := range c.left {
		if c.may(thread) {
			c.mark(thread, 1)
			c.left[thread]--
			c.run()
			c.left[thread]++
			c.mark(thread, -1)
		}
	}
	c.past = c.past[:len(c.past)-1]
}

// look holds the last moment against each ahead of it, for attempts to read and for others.
func (c *crowd) look() {
	for first := range c.past {
		for _, read := range []bool{false, true} {
			c.hold(first, read)
		}
	}
	for _, read := range []bool{false, true} {
		c.heldIfThere(read)
	}
}

// hold: where no watched word has changed since an attempt looked, whoever of those that it must not be beside was there at neither end was not there between.
func (c *crowd) hold(first int, read bool) {
	last := c.past[len(c.past)-1]
	for _, at := range words.Watched(some, 1, c.rw, read) {
		if c.past[first].saw[at] != last.saw[at] {
			return
		}
	}
	for thread := range c.left {
		if read && c.reads[thread] || c.past[first].there[thread] || last.there[thread] {
			continue
		}
		for _, m := range c.past[first:] {
			if m.there[thread] {
				c.t.Fatalf("thread %d was there and nobody saw: %v", thread, c.past[first:])
			}
		}
	}
}

// heldIfThere: a watched word says that the lock is held just if one is there whom the attempt must not be beside.
func (c *crowd) heldIfThere(read bool) {
	last := c.past[len(c.past)-1]
	held, want := false, false
	for _, at := range words.Watched(some, 1, c.rw, read) {
		held = held || words.Held(some, 1, at, last.saw[at])
	}
	for thread := range c.left {
		want = want || last.there[thread] && !(read && c.reads[thread])
	}
	if held != want {
		c.t.Fatalf("read %v: held is %v: %v", read, held, last)
	}
}

// TestNobodyUnseen: crowds of up to four, each of which comes up to twice, thrice where they are two.
func TestNobodyUnseen(t *testing.T) {
	for _, x := range []struct {
		rw     bool
		reads  []bool
		visits int
	}{
		{false, []bool{false}, 5},
		{false, []bool{false, false}, 3},
		{false, []bool{false, false, false}, 2},
		{false, []bool{false, false, false, false}, 2},
		{true, []bool{true}, 5},
		{true, []bool{true, false}, 3},
		{true, []bool{true, true}, 3},
		{true, []bool{false, false, true}, 2},
		{true, []bool{true, true, false}, 2},
		{true, []bool{true, true, true}, 2},
		{true, []bool{true, true, false, false}, 1},
		{true, []bool{true, true, true, false}, 1},
		{true, []bool{true, true, true, true}, 1},
	} {
		c := &crowd{t: t, w: mem.New(make([]int64, place.Size(some))...), rw: x.rw, reads: x.reads}
		for range x.reads {
			c.left = append(c.left, 2*x.visits)
		}
		c.run()
	}
}

// TestManyReaders: the same, of one reader behind another, oftener than six bits could count: what they leave behind is never what was there.
func TestManyReaders(t *testing.T) {
	w := mem.New(make([]int64, place.Size(some))...)
	at, _ := words.Mark(some, 1, true, false)
	seen := map[int64]bool{0: true}
	for range 1000 {
		for _, leave := range []bool{false, true} {
			_, by := words.Mark(some, 1, true, leave)
			w.Add(at, by)
			if x := w.Peek(at); seen[x] || words.Held(some, 1, at, x) == leave {
				t.Fatal(x, leave)
			}
			seen[w.Peek(at)] = true
		}
	}
}
