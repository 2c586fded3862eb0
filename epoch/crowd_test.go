package epoch_test

import (
	"strings"
	"testing"

	"syncope/epoch"
	"syncope/mem"
	"syncope/place"
)

// 18.2, and what T3 of DOC.md needs of it.

// What a thread does is told by its plan, a letter an access:
//
//	w  it looks at Word until that is even, so that nobody holds the lock
//	e  its Epoch is one more: it has an attempt, or has it no more
//	p  its Phase is 2: it commits
//	d  it looks at Word again: if that is the same it is decided, else it goes on at its next q
//	x  decided, it stores the data
//	t  it stores itself as the owner of the data
//	q  its Phase is 0
//	o  it looks at the owner: if there is one it goes on at its next e
//	a  its attempt reads the data
//	H  Word is one more: it holds the lock in earnest; it waits until nobody does
//	r  in earnest, it reads the data
//	h  Word is one more: it leaves
//	s  it stores the data, outside of any section
//	g  it gives the data back: there is no owner
//	C  a wait till it is calm, Q till it is quiet: a Start, by no access, and Steps
const (
	calm  = 'C'
	quiet = 'Q'
)

// field is the map of all crowds: four threads, a lock, a data word.
var field = place.Map{Stripes: 1, Locks: 1, Threads: 4, Data: 1}

// wait is an epoch.Wait that is under way.
type wait struct {
	on              bool
	at, state, seen int8
}

// stand is how far all are: the words; of each thread how much of its plan is done, its wait, how far all were at the Start of that, which Word it has looked at, whether it is decided. (In few bytes: there are many.)
type stand struct {
	words   [31]int8
	done    [4]int8
	waits   [4]wait
	from    [4][4]int8
	word    [4]int8
	decided [4]bool
}

// crowd is some threads with their plans, and what came of it: how often a wait had to stay, an attempt was aborted, or found an owner; how often they were not apart, and where so first.
type crowd struct {
	t                     *testing.T
	plans                 []string
	stays, aborted, owned int
	broken                int
	first                 stand
}

// begin is nobody's having done anything. The Epochs come from below 0.
func begin() stand {
	var s stand
	for thread := range field.Threads {
		s.words[place.Thread(field, thread, place.Epoch)] = -2
	}
	return s
}

// memory is the words of a stand as a memory.
func (s stand) memory() *mem.Mem {
	var words []int64
	for _, x := range s.words {
		words = append(words, int64(x))
	}
	return mem.New(words...)
}

// data, owner and word are where these stand.
func data() int  { return place.Data(field, 0) }
func owner() int { return place.Owner(field, 0) }
func word() int  { return place.Lock(field, 0, place.Word) }

// letter is what a thread does next; 0: nothing.
func (c *crowd) letter(s stand, thread int) byte {
	if plan := c.plans[thread]; int(s.done[thread]) < len(plan) {
		return plan[s.done[thread]]
	}
	return 0
}

// within tells whether a thread, of whose plan so much is done, has done one letter since it did another one last.
func (c *crowd) within(thread int, done int8, from, to byte) bool {
	plan := c.plans[thread][:done]
	return strings.LastIndexByte(plan, from) > strings.LastIndexByte(plan, to)
}

// turns is how often, in so much of its plan, a thread has turned what a wait of that letter looks at: it is odd while it commits, or has an attempt.
func (c *crowd) turns(thread int, done int8, letter byte) int {
	plan := c.plans[thread][:done]
	if letter == calm {
		return strings.Count(plan, "p") + strings.Count(plan, "q")
	}
	return strings.Count(plan, "e")
}

// skip has a thread go on at its next such letter.
func (c *crowd) skip(s *stand, thread int, letter byte) {
	for c.letter(*s, thread) != letter {
		s.done[thread]++
	}
}

// goOn is what comes of it if a thread goes on.
func (c *crowd) goOn(s stand, thread int) stand {
	letter := c.letter(s, thread)
	c.apart(s, thread, letter)
	switch letter {
	case calm, quiet:
		return c.wait(s, thread, letter)
	case 'w', 'd', 'o':
		return c.look(s, thread, letter)
	case 'H':
		if s.words[word()]%2 == 1 {
			return s
		}
		fallthrough
	case 'h':
		s.words[word()]++
	case 'e':
		s.words[place.Thread(field, thread, place.Epoch)]++
	case 'p':
		s.words[place.Thread(field, thread, place.Phase)] = 2
	case 'q':
		s.words[place.Thread(field, thread, place.Phase)] = 0
		s.decided[thread] = false
	case 'x', 's':
		s.words[data()] = int8(thread)
	case 't':
		s.words[owner()] = int8(thread + 1)
	case 'g':
		s.words[owner()] = 0
	}
	s.done[thread]++
	return s
}

// look is what comes of a look at Word or at the owner.
func (c *crowd) look(s stand, thread int, letter byte) stand {
	stands := s.words[word()]
	switch {
	case letter == 'w' && stands%2 == 1:
		return s
	case letter == 'w':
		s.word[thread] = stands
	case letter == 'd' && stands == s.word[thread]:
		s.decided[thread] = true
	case letter == 'd':
		c.aborted++
		c.skip(&s, thread, 'q')
		return s
	case letter == 'o' && s.words[owner()] != 0:
		c.owned++
		c.skip(&s, thread, 'e')
		return s
	}
	s.done[thread]++
	return s
}

// wait is what comes of a wait's Start, or of its next Step.
func (c *crowd) wait(s stand, thread int, letter byte) stand {
	kind := epoch.Calm
	if letter == quiet {
		kind = epoch.Quiet
	}
	ahead := s.waits[thread]
	x := epoch.Wait{Kind: kind, Thread: thread, At: int(ahead.at), State: int(ahead.state), Seen: int64(ahead.seen)}
	if ahead.on {
		w := s.memory()
		x = epoch.Step(field, w, x)
		if w.Steps() != 1 {
			c.t.Fatalf("%q: thread %d waits by %d accesses: %v", c.plans, thread, w.Steps(), s)
		}
	} else {
		x = epoch.Start(field, kind, thread)
		s.from[thread] = s.done
	}
	s.waits[thread] = wait{on: true, at: int8(x.At), state: int8(x.State), seen: int8(x.Seen)}
	if s.waits[thread] == ahead {
		c.stays++
	}
	if epoch.Done(field, x) {
		c.end(&s, thread, letter)
	}
	return s
}

// end holds a wait that is over against the promise: who was at it at its Start is not at the same any more.
func (c *crowd) end(s *stand, thread int, letter byte) {
	for other := range c.plans {
		was, is := c.turns(other, s.from[thread][other], letter), c.turns(other, s.done[other], letter)
		if other != thread && was%2 == 1 && was == is {
			c.t.Fatalf("%q: behind %c of thread %d, thread %d is at it still: %v", c.plans, letter, thread, other, *s)
		}
	}
	s.waits[thread], s.from[thread] = wait{}, [4]int8{}
	s.done[thread]++
}

// apart holds a stand, and what a thread does next, against T3: who is there in earnest, and calm, is beside nobody who is decided; who stores outside of a section shares with nobody until it gives back.
func (c *crowd) apart(s stand, thread int, letter byte) {
	broken := false
	for other := range c.plans {
		if other == thread {
			continue
		}
		inside := c.within(other, s.done[other], 'H', 'h') && c.letter(s, other) != calm
		plain := c.within(other, s.done[other], 's', 'g')
		broken = broken || inside && s.decided[thread] || plain && strings.IndexByte("axrs", letter) >= 0
	}
	if broken {
		if c.broken == 0 {
			c.first = s
		}
		c.broken++
	}
}

// walk goes through all that may come, whoever goes on: all come to their end.
func (c *crowd) walk() {
	seen, list, ended := map[stand]bool{begin(): true}, []stand{begin()}, 0
	for len(list) > 0 {
		s := list[len(list)-1]
		list = list[:len(list)-1]
		over, stuck := true, true
		for thread := range c.plans {
			if c.letter(s, thread) == 0 {
				continue
			}
			on := c.goOn(s, thread)
			over, stuck = false, stuck && on == s
			if !seen[on] {
				seen[on] = true
				list = append(list, on)
			}
		}
		switch {
		case over:
			ended++
		case stuck:
			c.t.Fatalf("%q: nobody goes on: %v", c.plans, s)
		}
	}
	if ended == 0 {
		c.t.Errorf("%q: nobody comes to the end", c.plans)
	}
}

// TestNobodyIsLeft: all ways in which attempts, some of which commit, come and go beside those who wait.
func TestNobodyIsLeft(t *testing.T) {
	for _, plans := range [][]string{
		{"epqeeeepqe", "C"},
		{"epqeeeepqe", "Q"},
		{"Q", "epqeeeepqe"},
		{"epqepqee", "CQ", "eeepqe"},
		{"epqe", "epqe", "epqe", "C"},
		{"ee", "epqe", "Q", "epqe"},
		{"epqeepqe", "QC", "epqeepqe"},
		{"epqeQ", "epqeQ", "epqeQ"},
		{"epqeC", "epqeC", "epqeC"},
		{"eCpqQeC", "epqeQC"},
		{"epqeQ", "Cepqe", "eeQ", "epqe"},
	} {
		c := crowd{t: t, plans: plans}
		c.walk()
		if c.stays == 0 {
			t.Errorf("%q: no wait had to stay", plans)
		}
	}
}

// TestNobodyWaitsForItself: be it at it itself.
func TestNobodyWaitsForItself(t *testing.T) {
	for thread := range field.Threads {
		plans := make([]string, field.Threads)
		plans[thread] = "epCQqCQeCQ"
		c := crowd{t: t, plans: plans}
		c.walk()
		if c.stays != 0 {
			t.Errorf("%q: %d stays", plans, c.stays)
		}
	}
}

// keeps fails the test, unless threads of these plans are apart, and would not be without the waits of that letter.
func keeps(t *testing.T, letter byte, plans ...string) {
	t.Helper()
	c := crowd{t: t, plans: plans}
	c.walk()
	if c.broken != 0 {
		t.Errorf("%q: %d are not apart, first %v", plans, c.broken, c.first)
	}
	if c.stays == 0 || c.aborted+c.owned == 0 {
		t.Errorf("%q: %d stay, %d are aborted, %d find an owner", plans, c.stays, c.aborted, c.owned)
	}
	without := crowd{t: t}
	for _, plan := range plans {
		without.plans = append(without.plans, strings.ReplaceAll(plan, string(letter), ""))
	}
	without.walk()
	if without.broken == 0 {
		t.Errorf("%q: nobody has to wait", without.plans)
	}
}

// TestCalmKeepsApart: while one is there in earnest, behind its wait, nobody is decided.
func TestCalmKeepsApart(t *testing.T) {
	keeps(t, calm, "HCrh", "wepdxqewepdxqe")
	keeps(t, calm, "wepdxqe", "HCrhHCrh", "wepdxqe")
	keeps(t, calm, "wepdxqe", "wepdxqe", "wepdxqe", "HCrh")
	keeps(t, calm, "HCrh", "wepdxqe", "wepdxqe", "HCrh")
	keeps(t, calm, "wepdxqeHCrh", "HCrhwepdxqe", "wepdxqe")
}

// TestQuietKeepsApart: from its first store outside of any section nobody else comes to what one has taken, be it by an attempt or in earnest.
func TestQuietKeepsApart(t *testing.T) {
	keeps(t, quiet, "eptqeQssg", "eoaeeoae")
	keeps(t, quiet, "eoae", "eoae", "eptqeQssg", "eoae")
	keeps(t, quiet, "eptqeQssg", "weoapdqe", "HChQ")
	keeps(t, quiet, "weoapdqe", "HCrthQssg", "weoapdqe")
}
