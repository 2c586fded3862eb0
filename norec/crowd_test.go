package norec_test

import (
	"slices"
	"strconv"
	"testing"

	"syncope/api"
	"syncope/mem"
	"syncope/norec"
	"syncope/place"
	"syncope/vclock"
)

// 16.3, and of T2 and T3 what this layer has of it.

// crowd is what some threads do, one behind the other: attempts that all watch the lock's Word, or nothing; or sections that hold it in earnest, which are told by what they write.
type crowd struct {
	t       *testing.T
	m       place.Map
	watch   bool
	kills   int // how often an attempt may be killed in all
	plans   [][][]ask
	earnest []bool // of each thread

	seen   map[string]bool
	ended  int
	counts counts
}

// counts is what came of it, over all ways.
type counts struct {
	causes    [7]int
	committed int
	later     int // how often a stamp came to be another one behind Begin, ahead of the end
}

func (n *counts) add(more counts) {
	for cause := range n.causes {
		n.causes[cause] += more.causes[cause]
	}
	n.committed += more.committed
	n.later += more.later
}

// commit is what was made to stand, at which stamp.
type commit struct {
	made   int64
	writes []api.Word
}

// tried is what an attempt has read (no crowd reads what it writes behind that), its Stamp at its end, and its own place among the commits, or -1.
type tried struct {
	reads []api.Word
	stamp int64
	own   int
}

// actor is how far a thread is.
type actor struct {
	x        *norec.Tx
	at, next int // which of its plans, and which call of that
	r        int
	state    int // of one in earnest; of an attempt 1, if it has looked at Word
	word     int64
	from     int64 // the highest stamp of all that were at their end when it began
	tried    tried
	saw      []int64 // by what is under way
	bump     vclock.Bump
	inside   bool // in earnest, from behind its wait for those that commit
	claims   bool // the sequence word is odd by it
}

// stand is how far all of them are.
type stand struct {
	*crowd
	w       *mem.Mem
	actors  []*actor
	commits []commit
	past    []tried
	top     int64 // the highest stamp of all that are at their end
	killed  int
}

// begin is nobody's having gone on yet.
func (c *crowd) begin() *stand {
	s := &stand{crowd: c, w: mem.New(make([]int64, place.Size(c.m))...)}
	for thread := range c.plans {
		s.actors = append(s.actors, &actor{x: norec.New(c.m, thread, 8, 8, 1000), tried: tried{own: -1}, r: api.TDone})
	}
	return s
}

func (c *crowd) wordAt() int { return place.Lock(c.m, 0, place.Word) }

// key tells all of a stand by which it may go on one way or another, and by which it is judged.
func (s *stand) key() string {
	var k []byte
	put := func(list ...int64) {
		for _, n := range list {
			k = append(strconv.AppendInt(k, n, 36), ' ')
		}
		k = append(k, '.')
	}
	records := func(r tried) {
		put(r.stamp, int64(r.own))
		for _, word := range r.reads {
			put(int64(word.At), word.Val)
		}
	}
	put(s.w.All()...)
	put(int64(s.killed), s.top)
	for _, o := range s.actors {
		put(int64(o.at), int64(o.next), int64(o.r), int64(o.state), o.word, o.from, o.bump.Seen, o.bump.Stamp, int64(o.bump.State))
		put(o.x.Value(), o.x.Stamp(), o.x.Made(), int64(o.x.Cause()))
		put(o.saw...)
		records(o.tried)
	}
	for _, r := range s.past {
		records(r)
	}
	for _, made := range s.commits {
		put(made.made)
		for _, word := range made.writes {
			put(int64(word.At), word.Val)
		}
	}
	return string(k)
}

// able is who may go on: each that is not at its end; and, behind these, 4 and the thread, whose attempt may be killed.
func (s *stand) able() []int {
	var list []int
	for thread, o := range s.actors {
		if o.at < len(s.plans[thread]) {
			list = append(list, thread)
		}
	}
	for thread, o := range s.actors {
		if s.killed < s.kills && !s.earnest[thread] && o.next > 0 && !o.x.Decided() && o.x.Cause() == 0 {
			list = append(list, 4+thread)
		}
	}
	return list
}

// turn lets one go on by one access, or kills its attempt.
func (s *stand) turn(n int) {
	thread, count := n%4, s.w.Steps()
	o := s.actors[thread]
	switch {
	case n >= 4:
		s.killed++
		o.saw = append(o.saw, -1)
		if o.r = o.x.Kill(api.CScript); o.r != api.TBusy {
			s.end(o)
		}
		return
	case s.earnest[thread]:
		s.hold(thread)
	case s.watch && o.state == 0:
		if o.word, _ = s.w.Load(s.wordAt()); o.word%2 == 0 {
			o.state = 1
		}
	default:
		s.goOn(thread)
	}
	if s.w.Steps() != count+1 {
		s.t.Fatalf("thread %d goes on by %d accesses", thread, s.w.Steps()-count)
	}
}

// goOn brings an attempt one access on; what needs none is asked ahead of it.
func (s *stand) goOn(thread int) {
	o := s.actors[thread]
	plan := s.plans[thread][o.at]
	for o.r != api.TBusy {
		k := plan[o.next]
		o.next++
		o.saw = nil
		o.r = k.to(o.x)
		if k.what == toBegin {
			o.from = s.top
		}
	}
	k := plan[o.next-1]
	decided, stamp := o.x.Decided(), o.x.Stamp()
	o.r = o.x.Step(s.w)
	s.apart(thread, k)
	if o.note(s.w.Last()); !decided && o.x.Decided() {
		s.decide(o)
	}
	if k.what != toBegin && !o.x.Decided() && o.x.Stamp() != stamp {
		s.counts.later++
	}
	switch {
	case o.r == api.TDone && k.what == toBegin && s.watch:
		o.x.Watch(s.wordAt(), o.word)
	case o.r == api.TDone && k.what == toRead:
		o.tried.reads = append(o.tried.reads, api.Word{At: k.at, Val: o.x.Value()})
	case o.r == api.TDead, o.r == api.TDone && k.what == toCommit:
		s.end(o)
	}
}

// note has its last access among what it saw. Once it has found the sequence word odd, it waits until that is even, and what it saw ahead of that is nothing to what it does behind it.
func (o *actor) note(last api.Access) {
	if odd := int64(-2); last.At == seqAt && last.Kind != api.AStore && last.Saw%2 != 0 {
		o.saw = []int64{odd}
		return
	}
	o.saw = append(o.saw, last.Saw)
}

// apart holds an access against 16.3: one commits at a time, and nobody else writes.
func (s *stand) apart(thread int, k ask) {
	o, last := s.actors[thread], s.w.Last()
	switch {
	case last.Kind == api.ALoad || last.At == place.Thread(s.m, thread, place.Phase):
		return
	case k.what != toCommit:
		s.t.Fatalf("a write by call %v: %v", k, last)
	case last.Kind == api.ASwap && !last.Done:
		return
	case last.Kind == api.ASwap:
		for _, other := range s.actors {
			if other.claims {
				s.t.Fatal("two commit at a time")
			}
		}
		o.claims = true
	case !o.claims:
		s.t.Fatalf("a write of one that may not: %v", last)
	case last.At == seqAt:
		o.claims = false
	}
}

// decide holds it against T3: nobody who watches is decided while one is inside in earnest.
func (s *stand) decide(o *actor) {
	for _, other := range s.actors {
		if s.watch && other.inside {
			s.t.Fatal("decided while one is there in earnest")
		}
	}
	s.counts.committed++
	if _, writes := o.x.Sets(); len(writes) > 0 {
		o.tried.own = len(s.commits)
		s.commit(o.x.Made(), writes)
	}
}

// commit holds each new stamp against the one ahead of it: none is made twice, and they rise.
func (s *stand) commit(made int64, writes []api.Word) {
	if last := len(s.commits) - 1; made <= 0 || made%2 != 0 || last >= 0 && made <= s.commits[last].made {
		s.t.Fatalf("a stamp of %d, behind %+v", made, s.commits)
	}
	s.commits = append(s.commits, commit{made, writes})
}

// end is an attempt's: what is next is the next one.
func (s *stand) end(o *actor) {
	if o.claims {
		s.t.Fatal("at its end it keeps the others from committing")
	}
	s.counts.causes[o.x.Cause()]++
	o.tried.stamp = o.x.Stamp()
	s.past = append(s.past, o.tried)
	s.top = max(s.top, o.x.Stamp())
	*o = actor{x: o.x, at: o.at + 1, tried: tried{own: -1}, r: api.TDone}
}

// hold brings one in earnest one access on: it marks the lock, waits for each that commits, makes a stamp, writes, and marks the lock again.
func (s *stand) hold(thread int) {
	o := s.actors[thread]
	plan := s.plans[thread][o.at]
	switch {
	case o.state == 0:
		s.w.Add(s.wordAt(), 1)
		o.state = 1
	case o.state == 1:
		if phase, _ := s.w.Load(place.Thread(s.m, o.next, place.Phase)); phase != 2 {
			o.next++
		}
		if o.next == len(s.plans) {
			o.state, o.next, o.bump = 2, 0, vclock.Start(api.ENorec, 0)
		}
	case o.state == 2:
		if o.bump = vclock.Step(s.m, s.w, o.bump); o.bump.State == vclock.Done {
			o.state, o.inside = 3, true
			var writes []api.Word
			for _, k := range plan {
				writes = append(writes, api.Word{At: k.at, Val: k.val})
			}
			s.commit(o.bump.Stamp, writes)
		}
	case o.next < len(plan):
		s.w.Store(plan[o.next].at, plan[o.next].val)
		o.next++
	default:
		s.w.Add(s.wordAt(), 1)
		s.top = max(s.top, o.bump.Stamp)
		*o = actor{x: o.x, at: o.at + 1, tried: tried{own: -1}, r: api.TDone}
	}
}

// word is what stands at a place when all that was committed up to that stamp is written, but one of them.
func (s *stand) word(at int, stamp int64, but int) int64 {
	val := int64(0)
	for i, c := range s.commits {
		if i == but || c.made > stamp {
			continue
		}
		for _, word := range c.writes {
			if word.At == at {
				val = word.Val
			}
		}
	}
	return val
}

// judge holds what each attempt has read, so far or at all, against what stood there at its Stamp; its Stamp against the stamps of those that were at their end ahead of it; and the sequence word against who commits.
func (s *stand) judge() {
	list, claims := slices.Clone(s.past), 0
	for thread, o := range s.actors {
		r := o.tried
		r.stamp = o.x.Stamp()
		list = append(list, r)
		begun := o.next > 1 || o.next == 1 && o.r != api.TBusy
		if !s.earnest[thread] && begun && o.x.Stamp() < o.from {
			s.t.Fatalf("thread %d begins at %d, behind %d", thread, o.x.Stamp(), o.from)
		}
		if s.watch && o.inside {
			s.alone()
		}
		if o.claims {
			claims++
		}
	}
	if int(s.w.Peek(seqAt)%2) != claims {
		s.t.Fatalf("the sequence word is %d, while %d commit", s.w.Peek(seqAt), claims)
	}
	for _, r := range list {
		for _, word := range r.reads {
			if want := s.word(word.At, r.stamp, r.own); word.Val != want {
				s.t.Fatalf("%+v has read %v, not %d: %+v", r, word, want, s.commits)
			}
		}
	}
}

// alone: nobody is on the way from being decided to its end while one is inside in earnest.
func (s *stand) alone() {
	for thread, o := range s.actors {
		if !s.earnest[thread] && o.next > 0 && o.x.Decided() {
			s.t.Fatalf("thread %d writes beside one in earnest", thread)
		}
	}
}

// over holds the memory against all that was committed, when all are at their end.
func (s *stand) over() {
	for at := place.Data(s.m, 0); at < place.Size(s.m); at++ {
		if want := s.word(at, 1000, -1); s.w.Peek(at) != want {
			s.t.Fatalf("at last %d stands at %d, not %d: %+v", s.w.Peek(at), at, want, s.commits)
		}
	}
	if s.w.Peek(seqAt) != int64(2*len(s.commits)) {
		s.t.Fatalf("at last the sequence word is %d: %+v", s.w.Peek(seqAt), s.commits)
	}
	for thread := range s.m.Threads {
		if s.w.Peek(place.Thread(s.m, thread, place.Phase)) != 0 {
			s.t.Fatalf("at last thread %d commits", thread)
		}
	}
}

// walk goes through all that may come of a new memory, whoever goes on. What an attempt is can't be copied: where the ways part, the other ones are gone again from the first turn on.
func (c *crowd) walk() {
	c.seen = map[string]bool{}
	list := [][]int{nil}
	for len(list) > 0 {
		turns := list[len(list)-1]
		list = list[:len(list)-1]
		counts := c.counts
		s := c.begin()
		for i, n := range turns {
			if i == len(turns)-1 {
				c.counts = counts // these were counted already
			}
			s.turn(n)
		}
		for k := s.key(); !c.seen[k]; k = s.key() {
			c.seen[k] = true
			s.judge()
			able := s.able()
			if len(able) == 0 {
				s.over()
				c.ended++
				break
			}
			for _, n := range able[1:] {
				list = append(list, append(slices.Clone(turns), n))
			}
			turns = append(turns, able[0])
			s.turn(able[0])
		}
	}
}

// attempt is the calls of one: it begins, does that, and is committed.
func attempt(calls ...ask) []ask {
	return slices.Concat([]ask{{what: toBegin}}, calls, []ask{{what: toCommit}})
}

// shape is a crowd, but for its map.
type shape struct {
	name    string
	watch   bool
	kills   int
	earnest []bool
	plans   [][][]ask
}

// shapes is some crowds at three places.
func shapes(p [3]int) []shape {
	get := func(i int) ask { return ask{what: toRead, at: p[i]} }
	put := func(i int, val int64) ask { return ask{what: toWrite, at: p[i], val: val} }
	longer := ask{what: toExtend}
	return []shape{
		{"two that turn one word", false, 0, []bool{false, false}, [][][]ask{
			{attempt(get(0), put(0, 1)), attempt(get(0), put(0, 2))},
			{attempt(get(0), put(0, 3)), attempt(get(0), put(0, 4))},
		}},
		{"each turns what the other one reads", false, 0, []bool{false, false}, [][][]ask{
			{attempt(get(0), get(1), put(0, 1)), attempt(get(1), put(0, 2))},
			{attempt(get(0), get(1), put(1, 3)), attempt(get(0), put(1, 4))},
		}},
		{"what was turned is turned back", false, 0, []bool{false, false}, [][][]ask{
			{attempt(get(0), get(1), get(2))},
			{attempt(put(0, 1), put(1, 1)), attempt(put(0, 0), put(2, 1)), attempt(put(1, 0))},
		}},
		{"killed", false, 2, []bool{false, false}, [][][]ask{
			{attempt(get(1), put(0, 1)), attempt(get(0))},
			{attempt(get(0), put(1, 2), put(0, 3))},
		}},
		{"one reads, and lives longer", false, 0, []bool{false, false}, [][][]ask{
			{attempt(get(0), longer, get(1), longer, get(2), get(0))},
			{attempt(put(0, 1), put(1, 2)), attempt(put(1, 3), put(2, 4))},
		}},
		{"in a ring", false, 0, []bool{false, false, false}, [][][]ask{
			{attempt(get(0), put(1, 1))},
			{attempt(get(1), put(2, 2))},
			{attempt(get(2), put(0, 3))},
		}},
		{"each writes its own, and one reads", false, 0, []bool{false, false, false}, [][][]ask{
			{attempt(get(0), get(1))},
			{attempt(get(0), put(0, 1))},
			{attempt(get(1), put(1, 2))},
		}},
		{"one reads what two write", false, 0, []bool{false, false, false}, [][][]ask{
			{attempt(get(0), get(1))},
			{attempt(put(0, 1), put(1, 2))},
			{attempt(get(1), put(1, 3))},
		}},
		{"three that turn one word, killed", false, 1, []bool{false, false, false}, [][][]ask{
			{attempt(get(0), put(0, 1))},
			{attempt(get(0), put(0, 2))},
			{attempt(get(0), put(0, 3))},
		}},
		{"three read what one writes", false, 0, []bool{false, false, false, false}, [][][]ask{
			{attempt(get(0))},
			{attempt(get(0))},
			{attempt(get(0))},
			{attempt(put(0, 1))},
		}},
		{"beside one in earnest at another lock", false, 0, []bool{false, false, true}, [][][]ask{
			{attempt(get(0), put(1, 1))},
			{attempt(get(1), put(0, 2))},
			{{put(2, 3)}, {put(2, 4)}},
		}},
		{"beside one in earnest", true, 1, []bool{false, true}, [][][]ask{
			{attempt(get(0), get(1), put(1, 1)), attempt(get(1), longer, get(0))},
			{{put(0, 2), put(1, 3)}, {put(1, 4)}},
		}},
		{"two beside one in earnest", true, 0, []bool{false, false, true}, [][][]ask{
			{attempt(get(0), get(1))},
			{attempt(put(0, 1), put(1, 2))},
			{{put(0, 3), put(1, 4)}},
		}},
	}
}

// TestOneWorld: all ways in which some threads may go on beside one another.
func TestOneWorld(t *testing.T) {
	m := place.Map{Stripes: 1, Locks: 1, Threads: 4, Data: 3}
	var all counts
	for _, z := range shapes([3]int{place.Data(m, 0), place.Data(m, 1), place.Data(m, 2)}) {
		c := crowd{t: t, m: m, watch: z.watch, kills: z.kills, plans: z.plans, earnest: z.earnest}
		c.walk()
		if c.ended == 0 || c.counts.committed == 0 {
			t.Errorf("%s: %d ends, %+v", z.name, c.ended, c.counts)
		}
		t.Logf("%s: %d stands, %d ends, %+v", z.name, len(c.seen), c.ended, c.counts)
		all.add(c.counts)
	}
	for _, cause := range []int{api.CStale, api.CWatch, api.CScript} {
		if all.causes[cause] == 0 {
			t.Errorf("nobody was aborted by %d", cause)
		}
	}
	if all.later == 0 || all.causes[api.CLocked] > 0 {
		t.Errorf("%+v", all)
	}
}
