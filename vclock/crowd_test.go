package vclock_test

import (
	"testing"

	"syncope/mem"
	"syncope/vclock"
)

// 11.3

// writes is a kind of these tests alone: one who makes the sequence word odd while it writes, and then even again; its States are 0, 1, 2 and Done.
const writes = 0

// stand is how far some threads are: the two clocks; of each thread how far its Bump is, the highest stamp that there was when it began (-1: it has not), and how many it has made; of each clock the highest stamp, and who made it. (In few bytes: there are many.)
type stand struct {
	clocks                  [2]int8
	state, seen, from, made [4]int8
	top, maker              [2]int8
}

// crowd is so many threads, each of which makes so many stamps of its kind.
type crowd struct {
	t       *testing.T
	threads int
	often   int8
	kinds   [4]int
	joined  int // how many ends of a Bump were joins
}

// line is the clock that a kind goes by.
func line(kind int) int {
	switch kind {
	case vclock.Own, vclock.Join:
		return 0
	}
	return 1
}

// write is a Step of one that writes.
func write(w *mem.Mem, b vclock.Bump) vclock.Bump {
	switch b.State {
	case 0:
		if saw, _ := w.Load(1); saw%2 == 0 {
			b.State, b.Seen = 1, saw
		}
	case 1:
		_, done, _ := w.Swap(1, b.Seen, b.Seen+1)
		if b.State = 0; done {
			b.State = 2
		}
	case 2:
		w.Store(1, b.Seen+2)
		b.State, b.Stamp = vclock.Done, b.Seen+2
	}
	return b
}

// step is what comes of it if a thread goes on by one call.
func (c *crowd) step(s stand, thread int) stand {
	kind := c.kinds[thread]
	k := line(kind)
	if s.from[thread] < 0 {
		s.from[thread] = s.top[k]
	}
	w := clocks(int64(s.clocks[0]), int64(s.clocks[1]))
	b := vclock.Bump{Kind: kind, State: int(s.state[thread]), Seen: int64(s.seen[thread])}
	if kind == writes {
		b = write(w, b)
	} else {
		b = vclock.Step(small, w, b)
	}
	if w.Steps() != 1 {
		c.t.Fatalf("thread %d goes on by %d accesses: %v", thread, w.Steps(), s)
	}
	s.clocks = [2]int8{int8(w.Peek(0)), int8(w.Peek(1))}
	s.state[thread], s.seen[thread] = int8(b.State), int8(b.Seen)
	if b.State == vclock.Done {
		c.end(&s, thread, int8(b.Stamp), w.Last().Done)
	}
	return s
}

// end holds a stamp against the promise: it is above all that there were when it was begun; it is above all that there are, unless it is joined.
func (c *crowd) end(s *stand, thread int, stamp int8, own bool) {
	k := line(c.kinds[thread])
	if stamp <= s.from[thread] {
		c.t.Fatalf("thread %d has %d, and began behind %d: %v", thread, stamp, s.from[thread], *s)
	}
	switch {
	case own && stamp > s.top[k]:
		s.top[k], s.maker[k] = stamp, int8(thread)
	case !own && c.kinds[thread] == vclock.Join && stamp == s.top[k] && int(s.maker[k]) != thread:
		c.joined++
	default:
		c.t.Fatalf("thread %d has %d, which is neither its own nor joined: %v", thread, stamp, *s)
	}
	s.made[thread]++
	s.state[thread], s.seen[thread], s.from[thread] = 0, 0, -1
}

// judge holds the clocks of a stand against the stamps: each stands at the highest one, or one above it while somebody writes.
func (c *crowd) judge(s stand) {
	stands := s.top
	for thread := range c.threads {
		if c.kinds[thread] == writes && s.state[thread] == 2 {
			stands[1]++
		}
	}
	if stands != s.clocks {
		c.t.Fatalf("the clocks stand at %v, not %v: %v", s.clocks, stands, s)
	}
}

// walk goes through all that may come of new clocks, whoever goes on.
func (c *crowd) walk() {
	begin := stand{from: [4]int8{-1, -1, -1, -1}}
	seen, list, ended := map[stand]bool{begin: true}, []stand{begin}, 0
	for len(list) > 0 {
		s := list[len(list)-1]
		list = list[:len(list)-1]
		c.judge(s)
		over, stuck := true, true
		for thread := range c.threads {
			if s.made[thread] == c.often {
				continue
			}
			on := c.step(s, thread)
			over, stuck = false, stuck && on == s
			if !seen[on] {
				seen[on] = true
				list = append(list, on)
			}
		}
		switch {
		case over:
			ended++
		case stuck:
			c.t.Fatalf("nobody goes on: %v", s)
		}
	}
	if ended == 0 {
		c.t.Errorf("%v: nobody comes to the end", *c)
	}
}

// TestStampsRise: all ways in which some threads may make their stamps.
func TestStampsRise(t *testing.T) {
	const o, j, e, w = vclock.Own, vclock.Join, vclock.Even, writes
	for _, x := range []struct {
		threads int
		often   int8
		kinds   [4]int
		joins   bool
	}{
		{1, 4, [4]int{o}, false},
		{1, 4, [4]int{j}, false},
		{1, 4, [4]int{e}, false},
		{4, 3, [4]int{o, o, o, o}, false},
		{2, 5, [4]int{j, j}, true},
		{4, 2, [4]int{j, j, j, j}, true},
		{2, 5, [4]int{e, e}, false},
		{4, 2, [4]int{e, e, e, e}, false},
		{3, 2, [4]int{e, w, e}, false},
		{4, 2, [4]int{w, e, w, e}, false},
		{4, 2, [4]int{o, j, e, w}, true},
	} {
		c := crowd{t: t, threads: x.threads, often: x.often, kinds: x.kinds}
		c.walk()
		if (c.joined > 0) != x.joins {
			t.Errorf("%v: %d joins", x, c.joined)
		}
	}
}
