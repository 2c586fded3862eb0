package vclock_test

import (
	"math"
	"slices"
	"testing"

	"syncope/api"
	"syncope/mem"
	"syncope/place"
	"syncope/vclock"
)

// maps is some that may be.
func maps() []place.Map {
	return []place.Map{
		{Stripes: 1, Threads: 1},
		{Stripes: 1, Locks: 2, Threads: 3, Data: 1},
		{Stripes: 7, Threads: 2, Conds: 2, Data: 5},
		{Stripes: api.MaxStripes, Locks: api.MaxLocks, Threads: api.MaxThreads, Conds: api.MaxConds, Data: api.MaxData},
	}
}

// badMaps is maps that may not be.
func badMaps() []place.Map {
	list := []place.Map{{}, {Stripes: 1}, {Threads: 1}}
	for _, n := range []int{math.MinInt, -1, 41, math.MaxInt} {
		list = append(list,
			place.Map{Stripes: n, Locks: 2, Threads: 2},
			place.Map{Stripes: 1, Locks: n, Threads: 2},
			place.Map{Stripes: 1, Locks: 2, Threads: n},
			place.Map{Stripes: 1, Locks: 2, Threads: 2, Conds: n},
			place.Map{Stripes: 1, Locks: 2, Threads: 2, Data: n})
	}
	return list
}

// numbers is what may stand in a word, or in a Bump: even and odd ones, and the ends.
func numbers() []int64 {
	return []int64{math.MinInt64, math.MinInt64 + 1, -1 << 32, -3, -2, -1, 0, 1, 2, 3, 4, 5, 255, 256, 1 << 32, 1<<32 + 1, api.MaxClock, math.MaxInt64 - 2, math.MaxInt64 - 1, math.MaxInt64}
}

// other is the words of a map, each another one.
func other(m place.Map) []int64 {
	words := make([]int64, place.Size(m))
	for a := range words {
		words[a] = int64(1000 + a)
	}
	return words
}

// does fails the test, unless Step of that Bump is answered so, with that one access and no other (Kind 0: with none), at a memory of these words.
func does(t *testing.T, m place.Map, words []int64, b, want vclock.Bump, done api.Access) {
	t.Helper()
	w := mem.New(words...)
	got := vclock.Step(m, w, b)
	stands, steps := slices.Clone(words), 0
	switch {
	case done.Kind == api.AAdd:
		stands[done.At] += done.Val
	case done.Kind == api.ASwap && done.Done:
		stands[done.At] = done.Val
	}
	if done.Kind != 0 {
		steps = 1
	}
	if got != want {
		t.Errorf("%v: Step of %v = %v, not %v", m, b, got, want)
	}
	if w.Last() != done || w.Steps() != steps {
		t.Errorf("%v: Step of %v: %d accesses, the last one %v, not %v", m, b, w.Steps(), w.Last(), done)
	}
	if !slices.Equal(w.All(), stands) {
		t.Errorf("%v: Step of %v leaves %v, not %v", m, b, w.All(), stands)
	}
}

// load, add and swap are accesses as they are told.
func load(a int, saw int64) api.Access {
	return api.Access{Kind: api.ALoad, At: a, Val: saw, Saw: saw, Done: true}
}

func add(a int, saw, more int64) api.Access {
	return api.Access{Kind: api.AAdd, At: a, Val: more, Saw: saw, Done: true}
}

func swap(a int, saw, old, val int64) api.Access {
	return api.Access{Kind: api.ASwap, At: a, Val: val, Saw: saw, Done: saw == old}
}

// each goes through all maps, with each of the numbers at that place, and as a Bump's Seen, and its Stamp.
func each(at func(place.Map) int, do func(m place.Map, words []int64, stands, seen, stamp int64)) {
	for _, m := range maps() {
		words := other(m)
		for _, stands := range numbers() {
			words[at(m)] = stands
			for _, seen := range numbers() {
				for _, stamp := range []int64{math.MinInt64, 0, 7, 1 << 32} {
					do(m, words, stands, seen, stamp)
				}
			}
		}
	}
}

// 11.1

func TestStart(t *testing.T) {
	all := []int{math.MinInt, -1 << 32, -2, -1, 0, 1, 2, 3, 4, 9, 256, 257, 258, 1 << 32, 1<<32 + 1, 1<<32 + 2, math.MaxInt}
	for _, engine := range all {
		for _, clock := range all {
			want := vclock.Bump{}
			switch {
			case engine == api.ENorec:
				want.Kind = vclock.Even
			case engine == api.ETL2 && clock == api.GV1:
				want.Kind = vclock.Own
			case engine == api.ETL2 && clock == api.GV4:
				want.Kind = vclock.Join
			}
			if got := vclock.Start(engine, clock); got != want {
				t.Errorf("Start(%d, %d) = %v, not %v", engine, clock, got, want)
			}
		}
	}
}

func TestNames(t *testing.T) {
	if vclock.Own != 1 || vclock.Join != 2 || vclock.Even != 3 || vclock.Done != 9 {
		t.Error(vclock.Own, vclock.Join, vclock.Even, vclock.Done)
	}
}

func TestOwn(t *testing.T) {
	each(place.Clock, func(m place.Map, words []int64, stands, seen, stamp int64) {
		does(t, m, words,
			vclock.Bump{Kind: vclock.Own, Seen: seen, Stamp: stamp},
			vclock.Bump{Kind: vclock.Own, State: vclock.Done, Seen: seen, Stamp: stands + 1},
			add(0, stands, 1))
	})
}

func TestJoinLooks(t *testing.T) {
	each(place.Clock, func(m place.Map, words []int64, stands, seen, stamp int64) {
		does(t, m, words,
			vclock.Bump{Kind: vclock.Join, Seen: seen, Stamp: stamp},
			vclock.Bump{Kind: vclock.Join, State: 1, Seen: stands, Stamp: stamp},
			load(0, stands))
	})
}

// TestJoinPuts: its stamp is its own, or that of the one who was quicker.
func TestJoinPuts(t *testing.T) {
	each(place.Clock, func(m place.Map, words []int64, stands, seen, stamp int64) {
		want := vclock.Bump{Kind: vclock.Join, State: vclock.Done, Seen: seen, Stamp: stands}
		if stands == seen {
			want.Stamp = seen + 1
		}
		does(t, m, words,
			vclock.Bump{Kind: vclock.Join, State: 1, Seen: seen, Stamp: stamp}, want,
			swap(0, stands, seen, seen+1))
	})
}

// TestEvenLooks: of an odd number it stays where it is.
func TestEvenLooks(t *testing.T) {
	each(place.Seq, func(m place.Map, words []int64, stands, seen, stamp int64) {
		b := vclock.Bump{Kind: vclock.Even, Seen: seen, Stamp: stamp}
		want := b
		if stands%2 == 0 {
			want.State, want.Seen = 1, stands
		}
		does(t, m, words, b, want, load(1, stands))
	})
}

// TestEvenPuts: where another one was quicker it begins anew.
func TestEvenPuts(t *testing.T) {
	each(place.Seq, func(m place.Map, words []int64, stands, seen, stamp int64) {
		want := vclock.Bump{Kind: vclock.Even, Stamp: stamp}
		if stands == seen {
			want = vclock.Bump{Kind: vclock.Even, State: vclock.Done, Seen: seen, Stamp: seen + 2}
		}
		does(t, m, words,
			vclock.Bump{Kind: vclock.Even, State: 1, Seen: seen, Stamp: stamp}, want,
			swap(1, stands, seen, seen+2))
	})
}

// step is what Step has to answer, and the access that it has to make.
type step struct {
	want vclock.Bump
	done api.Access
}

// walks fails the test, unless a Bump goes on by these steps, one behind the other.
func walks(t *testing.T, w *mem.Mem, b vclock.Bump, list []step) vclock.Bump {
	t.Helper()
	for i, s := range list {
		ahead, steps := b, w.Steps()
		b = vclock.Step(small, w, ahead)
		if b != s.want || w.Last() != s.done || w.Steps() != steps+1 {
			t.Errorf("step %d: Step of %v = %v, by %d accesses, the last one %v", i, ahead, b, w.Steps()-steps, w.Last())
		}
	}
	return b
}

// small is the map of one thread and nothing else.
var small = place.Map{Stripes: 1, Threads: 1}

// clocks is a memory of that map, with these numbers in the clock and in the sequence word.
func clocks(clock, seq int64) *mem.Mem { return mem.New(clock, seq, 0, 0, 0, 0) }

// TestOwnAtFour: the chapter's example.
func TestOwnAtFour(t *testing.T) {
	w := clocks(4, 20)
	b := walks(t, w, vclock.Start(api.ETL2, api.GV1), []step{
		{vclock.Bump{Kind: vclock.Own, State: vclock.Done, Stamp: 5}, add(0, 4, 1)},
	})
	if vclock.Step(small, w, b) != b || w.Steps() != 1 || w.Peek(0) != 5 || w.Peek(1) != 20 {
		t.Error(b, w.All())
	}
}

func TestTwoJoins(t *testing.T) {
	w := clocks(4, 20)
	looks := []step{{vclock.Bump{Kind: vclock.Join, State: 1, Seen: 4}, load(0, 4)}}
	ahead := walks(t, w, vclock.Start(api.ETL2, api.GV4), looks)
	behind := walks(t, w, vclock.Start(api.ETL2, api.GV4), looks)
	ends := vclock.Bump{Kind: vclock.Join, State: vclock.Done, Seen: 4, Stamp: 5}
	walks(t, w, ahead, []step{{ends, swap(0, 4, 4, 5)}})
	walks(t, w, behind, []step{{ends, swap(0, 5, 4, 5)}})
	if w.Peek(0) != 5 || w.Peek(1) != 20 {
		t.Error(w.All())
	}
}

// TestJoinOfMore: the clock may have gone on by more than one.
func TestJoinOfMore(t *testing.T) {
	w := clocks(4, 20)
	b := vclock.Step(small, w, vclock.Start(api.ETL2, api.GV4))
	w.Store(0, 9)
	walks(t, w, b, []step{{vclock.Bump{Kind: vclock.Join, State: vclock.Done, Seen: 4, Stamp: 9}, swap(0, 9, 4, 5)}})
}

func TestTwoEvens(t *testing.T) {
	w := clocks(4, 20)
	looks := []step{{vclock.Bump{Kind: vclock.Even, State: 1, Seen: 20}, load(1, 20)}}
	ahead := walks(t, w, vclock.Start(api.ENorec, api.GV1), looks)
	behind := walks(t, w, vclock.Start(api.ENorec, api.GV4), looks)
	walks(t, w, ahead, []step{{vclock.Bump{Kind: vclock.Even, State: vclock.Done, Seen: 20, Stamp: 22}, swap(1, 20, 20, 22)}})
	walks(t, w, behind, []step{
		{vclock.Bump{Kind: vclock.Even}, swap(1, 22, 20, 22)},
		{vclock.Bump{Kind: vclock.Even, State: 1, Seen: 22}, load(1, 22)},
		{vclock.Bump{Kind: vclock.Even, State: vclock.Done, Seen: 22, Stamp: 24}, swap(1, 22, 22, 24)},
	})
	if w.Peek(0) != 4 || w.Peek(1) != 24 {
		t.Error(w.All())
	}
}

// TestEvenWaits: as long as one writes, the sequence word is odd.
func TestEvenWaits(t *testing.T) {
	w := clocks(4, 21)
	b := walks(t, w, vclock.Start(api.ENorec, 0), []step{
		{vclock.Bump{Kind: vclock.Even}, load(1, 21)},
		{vclock.Bump{Kind: vclock.Even}, load(1, 21)},
	})
	w.Store(1, 22)
	walks(t, w, b, []step{
		{vclock.Bump{Kind: vclock.Even, State: 1, Seen: 22}, load(1, 22)},
		{vclock.Bump{Kind: vclock.Even, State: vclock.Done, Seen: 22, Stamp: 24}, swap(1, 22, 22, 24)},
	})
}

// 11.1, of what is none

// onWay is the States in which a Step of that kind makes an access.
func onWay(kind int) []int {
	switch kind {
	case vclock.Own:
		return []int{0}
	case vclock.Join, vclock.Even:
		return []int{0, 1}
	}
	return nil
}

// kinds is those that are, wild numbers that are no kind and no State but 0 to 9.
func kinds() []int { return []int{vclock.Own, vclock.Join, vclock.Even} }

func wild() []int {
	list := []int{math.MinInt, -1 << 32, -9, -2, -1, 256, 257, 258, 259, 256 + 9, 1 << 32, 1<<32 + 1, 1<<32 + 2, 1<<32 + 3, 1<<32 + 9, math.MaxInt}
	for n := range 20 {
		list = append(list, n)
	}
	return list
}

func TestNothingToDo(t *testing.T) {
	for _, m := range maps() {
		for _, kind := range wild() {
			for _, state := range wild() {
				if slices.Contains(onWay(kind), state) {
					continue
				}
				for _, n := range []int64{0, 1000, 1001, math.MinInt64} {
					none := vclock.Bump{Kind: kind, State: state, Seen: n, Stamp: n + 1}
					does(t, m, other(m), none, none, api.Access{})
					does(t, m, make([]int64, place.Size(m)), none, none, api.Access{})
				}
			}
		}
	}
}

// staysIn fails the test, unless each Bump that is under way is answered as it is, without an access.
func staysIn(t *testing.T, m place.Map, words []int64) {
	t.Helper()
	for _, kind := range kinds() {
		for _, state := range onWay(kind) {
			for _, seen := range []int64{0, 2, 7} {
				none := vclock.Bump{Kind: kind, State: state, Seen: seen, Stamp: 3}
				does(t, m, words, none, none, api.Access{})
			}
		}
	}
}

func TestNoSuchMap(t *testing.T) {
	for _, m := range badMaps() {
		staysIn(t, m, slices.Repeat([]int64{2}, api.MaxWords))
		staysIn(t, m, make([]int64, api.MaxWords))
		staysIn(t, m, nil)
	}
}

// TestNoMemory: in one that is shorter than the map nothing is turned, though the clocks may be there.
func TestNoMemory(t *testing.T) {
	for _, m := range maps() {
		words := make([]int64, place.Size(m))
		for _, short := range [][]int64{{}, {0}, {0, 0}, words[:len(words)/2], words[1:]} {
			staysIn(t, m, short)
		}
		for _, w := range []*mem.Mem{nil, {}} {
			for _, kind := range kinds() {
				for _, state := range onWay(kind) {
					none := vclock.Bump{Kind: kind, State: state}
					if got := vclock.Step(m, w, none); got != none || w.Steps() != 0 {
						t.Errorf("%v: Step of %v without words = %v", m, none, got)
					}
				}
			}
		}
	}
}

// TestMoreMemory: one that has more words than the map is one.
func TestMoreMemory(t *testing.T) {
	for _, m := range maps() {
		for _, kind := range kinds() {
			w := mem.New(make([]int64, place.Size(m)+1)...)
			b := vclock.Bump{Kind: kind}
			for range onWay(kind) {
				b = vclock.Step(m, w, b)
			}
			if b.State != vclock.Done || w.Steps() != len(onWay(kind)) {
				t.Errorf("%v: kind %d: %v by %d accesses", m, kind, b, w.Steps())
			}
		}
	}
}

// 11.2

func TestOver(t *testing.T) {
	all := numbers()
	slices.Sort(all)
	for i, stamp := range all {
		for k, most := range all {
			if got := vclock.Over(stamp, most); got != (i > k) {
				t.Errorf("Over(%d, %d) = %v", stamp, most, got)
			}
		}
	}
}
