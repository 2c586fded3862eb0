package tl2_test

import (
	"slices"
	"testing"

	"syncope/api"
	"syncope/mem"
	"syncope/tl2"
)

// 15.1 to 15.3, whatever another one does between any two accesses.

// event is what comes ahead of one access of an attempt, from 0 on: it is killed, or a word is another one.
type event struct {
	ahead int
	kill  bool
	cause int
	word  api.Word
}

// quiet is an event that never comes.
var quiet = event{ahead: -1}

// note is an access, and what the attempt told of itself behind it.
type note struct {
	access api.Access
	told   told
}

// book is an attempt as the chapter tells it: what is asked is done at once, each access where its sentence has it.
type book struct {
	told
	w             *mem.Mem
	thread, clock int
	room, most    int
	top           int64
	watched       []api.Word
	taken         []api.Word
	alive, phased bool

	event event
	notes []note
	open  bool // what stands behind the last access is not told yet
}

// end is how what is asked comes to an end ahead of its time.
type end struct{ cause int }

// settle tells what stands behind the last access.
func (o *book) settle() {
	if o.open {
		o.notes[len(o.notes)-1].told = o.copied()
		o.open = false
	}
}

func (o *book) copied() told {
	s := o.told
	s.rows, s.writes = slices.Clone(s.rows), slices.Clone(s.writes)
	return s
}

// next is what comes ahead of an access.
func (o *book) next() {
	o.settle()
	e := o.event
	if e.ahead != len(o.notes) {
		return
	}
	o.event = quiet
	switch {
	case !e.kill:
		o.w.Store(e.word.At, e.word.Val)
	case o.alive && !o.decided:
		panic(end{e.cause})
	}
}

func (o *book) noted() {
	o.notes = append(o.notes, note{access: o.w.Last()})
	o.open = true
}

func (o *book) load(at int) int64 {
	o.next()
	word, _ := o.w.Load(at)
	o.noted()
	return word
}

func (o *book) store(at int, val int64) {
	o.next()
	o.w.Store(at, val)
	o.noted()
}

func (o *book) swap(at int, old, val int64) (int64, bool) {
	o.next()
	saw, done, _ := o.w.Swap(at, old, val)
	o.noted()
	return saw, done
}

func (o *book) add(at int, more int64) int64 {
	o.next()
	saw, _ := o.w.Add(at, more)
	o.noted()
	return saw
}

// need ends what is asked by a cause, unless all is well.
func need(well bool, cause int) {
	if !well {
		panic(end{cause})
	}
}

// run does what is asked, and undoes it, if it is aborted.
func (o *book) run(do func()) (r int) {
	defer o.settle()
	defer func() {
		if e, ok := recover().(end); ok {
			o.alive, o.cause, o.made, r = false, e.cause, 0, api.TDead
			for _, word := range o.taken {
				o.store(word.At, word.Val)
			}
			if o.phased {
				o.store(phase0, 0)
			}
		}
	}()
	do()
	return api.TDone
}

func (o *book) begin() int {
	if o.alive {
		return api.TDead
	}
	o.alive, o.phased, o.watched, o.taken = true, false, nil, nil
	o.told = told{stamp: o.stamp}
	return o.run(func() { o.stamp = o.load(clockAt) })
}

func (o *book) watch(at int, val int64) int {
	if o.alive {
		o.watched = append(o.watched, api.Word{At: at, Val: val})
	}
	return api.TDone
}

// look is how each call looks at what is watched.
func (o *book) look() {
	for _, word := range o.watched {
		need(o.load(word.At) == word.Val, api.CWatch)
	}
}

// fresh is 12.2's, of what stands at a stripe.
func (o *book) fresh(row int) int64 {
	p := o.load(row0 + row)
	need(p%16 == 0, api.CLocked)
	need(p/16 <= o.stamp, api.CStale)
	return p
}

func (o *book) read(at int) int {
	if !o.alive {
		return api.TDead
	}
	for _, word := range o.writes {
		if word.At == at {
			o.value = word.Val
			return api.TDone
		}
	}
	return o.run(func() {
		need(at >= 0 && at < size, api.CFull)
		row := (at ^ at>>4) % some.Stripes
		has := slices.Contains(o.rows, row)
		need(has || len(o.rows) < o.room, api.CFull)
		p := o.fresh(row)
		v := o.load(at)
		need(o.load(row0+row) == p, api.CStale)
		o.look()
		if o.value = v; !has {
			o.rows = append(o.rows, row)
		}
	})
}

func (o *book) write(at int, val int64) int {
	if !o.alive {
		return api.TDead
	}
	return o.run(func() {
		for i, word := range o.writes {
			if word.At == at {
				o.writes[i].Val = val
				return
			}
		}
		need(at >= 0 && at < size && len(o.writes) < o.most, api.CFull)
		o.writes = append(o.writes, api.Word{At: at, Val: val})
	})
}

func (o *book) extend() int {
	if !o.alive {
		return api.TDead
	}
	return o.run(func() {
		n := o.load(clockAt)
		for _, row := range o.rows {
			o.fresh(row)
		}
		o.look()
		o.stamp = n
	})
}

func (o *book) commit() int {
	if !o.alive {
		return api.TDead
	}
	return o.run(func() {
		o.store(phase0, 2)
		o.phased = true
		if len(o.writes) > 0 {
			o.take()
			o.bump()
			need(o.made <= o.top, api.COver)
			if o.clock != api.GV1 || o.made != o.stamp+1 {
				o.check()
			}
		}
		o.look()
		o.decided = true
		for _, word := range o.writes {
			o.store(word.At, word.Val)
		}
		for _, word := range o.taken {
			o.store(word.At, 16*o.made)
		}
		o.store(phase0, 0)
		if o.alive = false; len(o.writes) > 0 {
			o.stamp = o.made
		}
	})
}

func (o *book) take() {
	var among [3]bool
	for _, word := range o.writes {
		among[(word.At^word.At>>4)%3] = true
	}
	for row, is := range among {
		if is {
			x := o.load(row0 + row)
			need(x%16 == 0, api.CLocked)
			_, done := o.swap(row0+row, x, x+int64(o.thread)+1)
			need(done, api.CLocked)
			o.taken = append(o.taken, api.Word{At: row0 + row, Val: x})
		}
	}
}

func (o *book) bump() {
	if o.clock == api.GV1 {
		o.made = o.add(clockAt, 1) + 1
		return
	}
	seen := o.load(clockAt)
	saw, done := o.swap(clockAt, seen, seen+1)
	if o.made = saw; done {
		o.made = seen + 1
	}
}

func (o *book) check() {
	for _, row := range o.rows {
		p := o.load(row0 + row)
		need(p%16 == 0 || p%16 == int64(o.thread)+1, api.CLocked)
		need(p/16 <= o.stamp, api.CStale)
	}
}

// What may be asked.
const (
	toBegin = iota
	toWatch
	toRead
	toWrite
	toExtend
	toCommit
)

// ask is one call.
type ask struct {
	what, at int
	val      int64
}

// of asks it of the book.
func (k ask) of(o *book) int {
	switch k.what {
	case toBegin:
		return o.begin()
	case toWatch:
		return o.watch(k.at, k.val)
	case toRead:
		return o.read(k.at)
	case toWrite:
		return o.write(k.at, k.val)
	case toExtend:
		return o.extend()
	}
	return o.commit()
}

// to asks it of the attempt.
func (k ask) to(x *tl2.Tx) int {
	switch k.what {
	case toBegin:
		return x.Begin()
	case toWatch:
		x.Watch(k.at, k.val)
		return api.TDone
	case toRead:
		return x.Read(k.at)
	case toWrite:
		return x.Write(k.at, k.val)
	case toExtend:
		return x.Extend()
	}
	return x.Commit()
}

// trial is a row of calls, of an attempt by that clock, with that much room.
type trial struct {
	asks       []ask
	clock      int
	room, most int
	top        int64
}

// book is what the chapter has come of it with that event, and what each call is told at last.
func (z trial) book(e event) (*book, []int) {
	o := &book{w: world(), clock: z.clock, room: z.room, most: z.most, top: z.top, event: e}
	var ends []int
	for _, k := range z.asks {
		ends = append(ends, k.of(o))
	}
	return o, ends
}

// hold fails the test, unless the attempt is just as the book has it, access by access.
func (z trial) hold(t *testing.T, e event) {
	t.Helper()
	o, ends := z.book(e)
	w, x := world(), tl2.New(some, 0, z.clock, z.room, z.most, z.top)
	notes := o.notes
	for i, k := range z.asks {
		r := k.to(x)
		for r == api.TBusy {
			if e.ahead == len(o.notes)-len(notes) {
				came := e
				e = quiet
				if came.kill {
					if tells := x.Kill(came.cause); tells != api.TDone {
						r = tells
						continue
					}
				} else {
					w.Store(came.word.At, came.word.Val)
				}
			}
			r = x.Step(w)
			if len(notes) == 0 || w.Last() != notes[0].access || !look(x).equal(notes[0].told) {
				t.Fatalf("%+v: an access %v, then %+v; not so in\n%+v, left\n%+v", z, w.Last(), look(x), o.notes, notes)
			}
			notes = notes[1:]
		}
		if r != ends[i] {
			t.Fatalf("%+v: call %d tells %d, not %d", z, i, r, ends[i])
		}
	}
	if len(notes) > 0 || !look(x).equal(o.told) || !slices.Equal(w.All(), o.w.All()) {
		t.Fatalf("%+v: %+v, not %+v; %v, not %v", z, look(x), o.told, w.All(), o.w.All())
	}
}

// events is what may come ahead of any access.
func events() []event {
	list := []event{{kill: true, cause: api.CScript}, {kill: true}}
	for _, word := range []api.Word{
		{At: clockAt, Val: 6}, {At: clockAt, Val: 8}, {At: wordAt, Val: 5}, {At: wordAt, Val: 6}, {At: a, Val: 71},
		{At: row0, Val: 96}, {At: row0, Val: 82}, {At: row1, Val: 2}, {At: row1, Val: 96}, {At: row2, Val: 50}, {At: row2, Val: 96}, {At: row2, Val: 49}, {At: row2, Val: 32},
	} {
		list = append(list, event{word: word})
	}
	return list
}

// eachRow goes through all rows of up to that many of some calls, the shorter ones first.
func eachRow(some []ask, most int, do func([]ask)) {
	rows := [][]ask{nil}
	for range most + 1 {
		var longer [][]ask
		for _, row := range rows {
			do(row)
			for _, k := range some {
				longer = append(longer, append(slices.Clone(row), k))
			}
		}
		rows = longer
	}
}

// TestBook holds rows of calls, then a Commit, then a second attempt, against the book: by both clocks, with much room and little, undisturbed and with each event ahead of each access.
func TestBook(t *testing.T) {
	calls := []ask{{what: toWatch, at: wordAt, val: 4}, {what: toRead, at: a}, {what: toRead, at: c}, {what: toWrite, at: d, val: 101}, {what: toWrite, at: b, val: 81}, {what: toExtend}}
	ends := []ask{{what: toCommit}, {what: toBegin}, {what: toRead, at: b}, {what: toWrite, at: a, val: 72}, {what: toCommit}}
	for _, z := range []trial{{clock: api.GV1, room: 4, most: 4, top: 100}, {clock: api.GV4, room: 4, most: 4, top: 100}, {clock: api.GV1, room: 1, most: 1, top: 6}} {
		eachRow(calls, 3, func(row []ask) {
			z.asks = slices.Concat([]ask{{what: toBegin}}, row, ends)
			z.hold(t, quiet)
			o, _ := z.book(quiet)
			for ahead := range o.notes {
				for _, e := range events() {
					e.ahead = ahead
					z.hold(t, e)
				}
			}
		})
	}
}
