package norec_test

import (
	"slices"
	"testing"

	"syncope/api"
	"syncope/mem"
	"syncope/norec"
)

// 16.1 and 16.2, whatever another one does between any two accesses.

// event is what comes ahead of one access of an attempt, from 0 on: it is killed, or some words are other ones.
type event struct {
	ahead int
	kill  bool
	cause int
	words []api.Word
}

// note is an access, and what the attempt told of itself behind it.
type note struct {
	access api.Access
	told   told
}

// book is an attempt as the chapter tells it: what is asked is done at once, each access where its sentence has it.
type book struct {
	told
	w                      *mem.Mem
	room, most             int
	top                    int64
	reads, watched         []api.Word
	alive, phased, claimed bool

	events []event
	notes  []note
	open   bool // what stands behind the last access is not told yet
}

// end is how what is asked comes to an end ahead of its time.
type end struct{ cause int }

// settle tells what stands behind the last access.
func (o *book) settle() {
	if o.open {
		o.notes[len(o.notes)-1].told = o.copied()
		o.open = false
	}
}

func (o *book) copied() told {
	s := o.told
	s.places, s.writes = slices.Clone(s.places), slices.Clone(s.writes)
	return s
}

// next is what comes ahead of an access.
func (o *book) next() {
	o.settle()
	if len(o.events) == 0 || o.events[0].ahead != len(o.notes) {
		return
	}
	e := o.events[0]
	o.events = o.events[1:]
	for _, word := range e.words {
		o.w.Store(word.At, word.Val)
	}
	if e.kill && o.alive && !o.decided {
		panic(end{e.cause})
	}
}

func (o *book) noted() {
	o.notes = append(o.notes, note{access: o.w.Last()})
	o.open = true
}

func (o *book) load(at int) int64 {
	o.next()
	word, _ := o.w.Load(at)
	o.noted()
	return word
}

func (o *book) store(at int, val int64) {
	o.next()
	o.w.Store(at, val)
	o.noted()
}

func (o *book) swap(at int, old, val int64) bool {
	o.next()
	_, done, _ := o.w.Swap(at, old, val)
	o.noted()
	return done
}

// need ends what is asked by a cause, unless all is well.
func need(well bool, cause int) {
	if !well {
		panic(end{cause})
	}
}

// run does what is asked, and undoes it, if it is aborted.
func (o *book) run(do func()) (r int) {
	defer o.settle()
	defer func() {
		if e, ok := recover().(end); ok {
			o.alive, o.cause, o.made, r = false, e.cause, 0, api.TDead
			if o.claimed {
				o.store(seqAt, o.stamp)
			}
			if o.phased {
				o.store(phase0, 0)
			}
		}
	}()
	do()
	return api.TDone
}

func (o *book) begin() int {
	if o.alive {
		return api.TDead
	}
	o.alive, o.phased, o.claimed, o.reads, o.watched = true, false, false, nil, nil
	o.told = told{stamp: o.stamp}
	return o.run(func() { o.stamp = o.even() })
}

func (o *book) watch(at int, val int64) int {
	if o.alive {
		o.watched = append(o.watched, api.Word{At: at, Val: val})
	}
	return api.TDone
}

// even is the sequence word, when it is even.
func (o *book) even() int64 {
	n := o.load(seqAt)
	for n%2 != 0 {
		n = o.load(seqAt)
	}
	return n
}

// look is how each call looks at what is watched.
func (o *book) look() {
	for _, word := range o.watched {
		need(o.load(word.At) == word.Val, api.CWatch)
	}
}

// through is how it is looked through.
func (o *book) through() {
	for {
		n := o.even()
		for _, word := range o.reads {
			need(o.load(word.At) == word.Val, api.CStale)
		}
		if o.load(seqAt) == n {
			o.look()
			o.stamp = n
			return
		}
	}
}

func (o *book) read(at int) int {
	if !o.alive {
		return api.TDead
	}
	for _, word := range o.writes {
		if word.At == at {
			o.value = word.Val
			return api.TDone
		}
	}
	return o.run(func() {
		has := slices.Contains(o.places, at)
		need(at >= 0 && at < size && (has || len(o.places) < o.room), api.CFull)
		v := o.load(at)
		for o.load(seqAt) != o.stamp {
			o.through()
			v = o.load(at)
		}
		o.look()
		if o.value = v; !has {
			o.places = append(o.places, at)
			o.reads = append(o.reads, api.Word{At: at, Val: v})
		}
	})
}

func (o *book) write(at int, val int64) int {
	if !o.alive {
		return api.TDead
	}
	return o.run(func() {
		for i, word := range o.writes {
			if word.At == at {
				o.writes[i].Val = val
				return
			}
		}
		need(at >= 0 && at < size && len(o.writes) < o.most, api.CFull)
		o.writes = append(o.writes, api.Word{At: at, Val: val})
	})
}

func (o *book) extend() int {
	if !o.alive {
		return api.TDead
	}
	return o.run(o.through)
}

func (o *book) commit() int {
	if !o.alive {
		return api.TDead
	}
	return o.run(func() {
		o.store(phase0, 2)
		o.phased = true
		if len(o.writes) > 0 {
			o.claim()
		}
		o.look()
		o.decided = true
		for _, word := range o.writes {
			o.store(word.At, word.Val)
		}
		if len(o.writes) > 0 {
			o.store(seqAt, o.made)
		}
		o.store(phase0, 0)
		if o.alive = false; len(o.writes) > 0 {
			o.stamp = o.made
		}
	})
}

func (o *book) claim() {
	need(o.stamp+2 <= o.top, api.COver)
	for !o.swap(seqAt, o.stamp, o.stamp+1) {
		o.through()
		need(o.stamp+2 <= o.top, api.COver)
	}
	o.made, o.claimed = o.stamp+2, true
}

// What may be asked.
const (
	toBegin = iota
	toWatch
	toRead
	toWrite
	toExtend
	toCommit
)

// ask is one call.
type ask struct {
	what, at int
	val      int64
}

// of asks it of the book.
func (k ask) of(o *book) int {
	switch k.what {
	case toBegin:
		return o.begin()
	case toWatch:
		return o.watch(k.at, k.val)
	case toRead:
		return o.read(k.at)
	case toWrite:
		return o.write(k.at, k.val)
	case toExtend:
		return o.extend()
	}
	return o.commit()
}

// to asks it of the attempt.
func (k ask) to(x *norec.Tx) int {
	switch k.what {
	case toBegin:
		return x.Begin()
	case toWatch:
		x.Watch(k.at, k.val)
		return api.TDone
	case toRead:
		return x.Read(k.at)
	case toWrite:
		return x.Write(k.at, k.val)
	case toExtend:
		return x.Extend()
	}
	return x.Commit()
}

// trial is a row of calls, of an attempt with that much room.
type trial struct {
	asks       []ask
	room, most int
	top        int64
}

// book is what the chapter has come of it with these events, and what each call is told at last.
func (z trial) book(events []event) (*book, []int) {
	o := &book{w: world(), room: z.room, most: z.most, top: z.top, events: events}
	var ends []int
	for _, k := range z.asks {
		ends = append(ends, k.of(o))
	}
	return o, ends
}

// hold fails the test, unless the attempt is just as the book has it, access by access.
func (z trial) hold(t *testing.T, events ...event) {
	t.Helper()
	o, ends := z.book(events)
	w, x := world(), norec.New(some, 0, z.room, z.most, z.top)
	notes := o.notes
	for i, k := range z.asks {
		r := k.to(x)
		for r == api.TBusy {
			if len(events) > 0 && events[0].ahead == len(o.notes)-len(notes) {
				e := events[0]
				events = events[1:]
				for _, word := range e.words {
					w.Store(word.At, word.Val)
				}
				if e.kill {
					if tells := x.Kill(e.cause); tells != api.TDone {
						r = tells
						continue
					}
				}
			}
			r = x.Step(w)
			if len(notes) == 0 || w.Last() != notes[0].access || !look(x).equal(notes[0].told) {
				t.Fatalf("%+v: an access %v, then %+v; not so in\n%+v, left\n%+v", z, w.Last(), look(x), o.notes, notes)
			}
			notes = notes[1:]
		}
		if r != ends[i] {
			t.Fatalf("%+v: call %d tells %d, not %d", z, i, r, ends[i])
		}
	}
	if len(notes) > 0 || !look(x).equal(o.told) || !slices.Equal(w.All(), o.w.All()) {
		t.Fatalf("%+v: %+v, not %+v; %v, not %v", z, look(x), o.told, w.All(), o.w.All())
	}
}

// turn is some words that are other ones from then on, and at last the sequence word.
func turn(ahead int, now int64, words ...api.Word) event {
	return event{ahead: ahead, words: append(words, api.Word{At: seqAt, Val: now})}
}

// happens is what may come from any access on. A sequence word that comes to be odd is even again behind one to three accesses.
func happens(ahead int) [][]event {
	turned := []api.Word{{At: a, Val: 71}, {At: b, Val: 81}, {At: c, Val: 91}, {At: wordAt, Val: 7}, {At: wordAt, Val: 8}}
	list := [][]event{{{ahead: ahead, kill: true, cause: api.CScript}}, {{ahead: ahead, kill: true}}, {turn(ahead, 2)}, {turn(ahead, 6)}, {turn(ahead, 8)}}
	for _, word := range turned {
		list = append(list, []event{{ahead: ahead, words: []api.Word{word}}}, []event{turn(ahead, 6, word)})
	}
	for more := 1; more <= 3; more++ {
		list = append(list, []event{turn(ahead, 6), turn(ahead+more, 8)}, []event{turn(ahead, 5), turn(ahead+more, 4)})
		for _, word := range turned {
			list = append(list, []event{turn(ahead, 5, word), turn(ahead+more, 6)}, []event{turn(ahead, 5), turn(ahead+more, 6, word)})
		}
	}
	return list
}

// eachRow goes through all rows of up to that many of some calls, the shorter ones first.
func eachRow(some []ask, most int, do func([]ask)) {
	rows := [][]ask{nil}
	for range most + 1 {
		var longer [][]ask
		for _, row := range rows {
			do(row)
			for _, k := range some {
				longer = append(longer, append(slices.Clone(row), k))
			}
		}
		rows = longer
	}
}

// TestBook holds rows of calls, then a Commit, then a second attempt, against the book: with much room and little, undisturbed, and with all that may happen from each access on.
func TestBook(t *testing.T) {
	calls := []ask{{what: toWatch, at: wordAt, val: 6}, {what: toRead, at: a}, {what: toRead, at: c}, {what: toWrite, at: c, val: 92}, {what: toWrite, at: b, val: 82}, {what: toExtend}}
	ends := []ask{{what: toCommit}, {what: toBegin}, {what: toRead, at: b}, {what: toWrite, at: a, val: 72}, {what: toCommit}}
	for _, z := range []trial{{room: 4, most: 4, top: 100}, {room: 1, most: 1, top: 7}} {
		eachRow(calls, 3, func(row []ask) {
			z.asks = slices.Concat([]ask{{what: toBegin}}, row, ends)
			z.hold(t)
			o, _ := z.book(nil)
			for ahead := range o.notes {
				for _, events := range happens(ahead) {
					z.hold(t, events...)
				}
			}
		})
	}
}
