package reads_test

import (
	"math"
	"slices"
	"testing"

	"syncope/api"
	"syncope/reads"
)

// rooms is as many as are asked for, and as many as there are then.
func rooms() map[int]int {
	return map[int]int{
		math.MinInt: 0, -1 << 32: 0, -2: 0, -1: 0, 0: 0, 1: 1, 2: 2, 3: 3, 31: 31,
		32: 32, 33: 32, 64: 32, 1 << 32: 32, 1<<32 + 1: 32, math.MaxInt: 32,
	}
}

// keys is some stripes, some places, and what is neither.
func keys() []int {
	return []int{math.MinInt, -1 << 32, -33, -32, -1, 0, 1, 2, 31, 32, 33, 63, 64, 1 << 32, 1<<32 + 1, math.MaxInt}
}

// values is what may have been read.
func values() []int64 {
	return []int64{math.MinInt64, -1 << 32, -1, 0, 1, 2, 1 << 32, math.MaxInt64}
}

// few is the keys of the walks: so few that all that may be asked can be gone through.
var few = [4]int{math.MinInt, -1, 0, 5}

// plain is what a set should have.
type plain struct {
	room int
	list []api.Word
}

// find is where a key stands; -1: nowhere.
func (p *plain) find(key int) int {
	return slices.IndexFunc(p.list, func(w api.Word) bool { return w.At == key })
}

// put is 13.1's Put.
func (p *plain) put(key int, val int64) bool {
	if p.find(key) >= 0 {
		return true
	}
	if len(p.list) == p.room {
		return false
	}
	p.list = append(p.list, api.Word{At: key, Val: val})
	return true
}

// same holds all that a set tells against what it should have.
func same(t *testing.T, s *reads.Set, p *plain) {
	t.Helper()
	var order []int
	for _, w := range p.list {
		order = append(order, w.At)
	}
	if s.Len() != len(p.list) || !slices.Equal(s.Keys(), order) {
		t.Fatalf("%d keys %v, not %v", s.Len(), s.Keys(), order)
	}
	for i, w := range p.list {
		if s.At(i) != w {
			t.Fatalf("At(%d) = %v, not %v", i, s.At(i), w)
		}
	}
	for _, i := range []int{math.MinInt, -2, -1, len(p.list), len(p.list) + 1, api.MaxSet - 1, api.MaxSet, api.MaxSet + 1, 1 << 32, math.MaxInt} {
		if (i < 0 || i >= len(p.list)) && s.At(i) != (api.Word{}) {
			t.Fatalf("At(%d) = %v of %v", i, s.At(i), order)
		}
	}
	for _, key := range append(keys(), few[:]...) {
		has := p.find(key) >= 0
		if s.Has(key) != has || s.Room(key) != (has || len(p.list) < p.room) {
			t.Fatalf("%v of room %d: Has(%d) %v, Room %v", order, p.room, key, s.Has(key), s.Room(key))
		}
	}
}

// puts is a Put, and all that the set tells behind it.
func puts(t *testing.T, s *reads.Set, p *plain, key int, val int64) {
	t.Helper()
	if got, want := s.Put(key, val), p.put(key, val); got != want {
		t.Fatalf("Put(%d, %d) to %v of room %d = %v", key, val, p.list, p.room, got)
	}
	same(t, s, p)
}

// 13.1

// TestExample: the chapter's.
func TestExample(t *testing.T) {
	s := reads.New(2)
	if !s.Put(3, 0) || !s.Put(3, 0) || s.Len() != 1 {
		t.Error(s.Keys())
	}
}

// TestRoom: as many as there is room for, and one more; what is there may be put again all the same, and changes nothing.
func TestRoom(t *testing.T) {
	for asked, room := range rooms() {
		s, p := reads.New(asked), &plain{room: room}
		same(t, s, p)
		for i := range room + 2 {
			puts(t, s, p, 7*i-40, int64(i))
		}
		if s.Len() != room {
			t.Fatalf("New(%d) has room for %d", asked, s.Len())
		}
		for i := range room + 2 {
			puts(t, s, p, 7*i-40, 99)
		}
	}
}

// TestKeysAndValues: whatever they are, they are kept as they are, in the order in which they came.
func TestKeysAndValues(t *testing.T) {
	forth := keys()
	back := slices.Clone(forth)
	slices.Reverse(back)
	for _, order := range [][]int{forth, back} {
		for turn := range values() {
			s, p := reads.New(api.MaxSet), &plain{room: api.MaxSet}
			for i, key := range order {
				puts(t, s, p, key, values()[(i+turn)%len(values())])
			}
		}
	}
}

// TestWalks: all that may be put, and cleared, in seven calls, at little room.
func TestWalks(t *testing.T) {
	const calls = 7
	for room := range 4 {
		total := 1
		for range calls {
			total *= len(few) + 1
		}
		for walk := range total {
			s, p := reads.New(room), &plain{room: room}
			for i, left := 0, walk; i < calls; i, left = i+1, left/(len(few)+1) {
				if pick := left % (len(few) + 1); pick < len(few) {
					if got, want := s.Put(few[pick], int64(i+1)), p.put(few[pick], int64(i+1)); got != want {
						t.Fatalf("walk %d, room %d: Put(%d) = %v", walk, room, few[pick], got)
					}
					continue
				}
				s.Clear()
				p.list = nil
			}
			same(t, s, p)
		}
	}
}

// TestClear: nothing is left, all the room is there again, and what comes next has the values that it comes with.
func TestClear(t *testing.T) {
	for asked, room := range rooms() {
		s, p := reads.New(asked), &plain{room: room}
		s.Clear()
		same(t, s, p)
		for turn := range 3 {
			for i := range room + 1 {
				puts(t, s, p, i*(turn+1), int64(turn))
			}
			s.Clear()
			p.list = nil
			same(t, s, p)
		}
	}
}

// TestAsking: what only asks changes nothing.
func TestAsking(t *testing.T) {
	s, p := reads.New(2), &plain{room: 2}
	puts(t, s, p, 4, 1)
	for range api.MaxSet + 1 {
		s.Room(5)
		s.Room(4)
		s.Has(5)
		s.At(1)
		s.Keys()
		same(t, s, p)
	}
	puts(t, s, p, 5, 1)
}

// TestOwn: what Keys answers is the caller's own, and so is each set.
func TestOwn(t *testing.T) {
	s, p := reads.New(3), &plain{room: 3}
	puts(t, s, p, 9, 1)
	puts(t, s, p, 4, 2)
	early, other := s.Keys(), s.Keys()
	early[0] = 70
	if other[0] != 9 {
		t.Error("two answers share their memory")
	}
	same(t, s, p)
	early = append(early, 71)
	puts(t, s, p, 5, 3)
	if !slices.Equal(early, []int{70, 4, 71}) || !slices.Equal(other, []int{9, 4}) {
		t.Error(early, other)
	}
	s.Clear()
	s.Put(1, 1)
	if !slices.Equal(other, []int{9, 4}) {
		t.Error(other)
	}
	a, b := reads.New(1), reads.New(1)
	if !a.Put(1, 1) || b.Len() != 0 || !b.Put(2, 2) || a.At(0).At != 1 {
		t.Error("two sets share their memory")
	}
}

// TestCopy: a copy of a set goes on by itself.
func TestCopy(t *testing.T) {
	s, p := reads.New(3), &plain{room: 3}
	puts(t, s, p, 9, 1)
	c, q := *s, &plain{room: 3, list: slices.Clone(p.list)}
	puts(t, s, p, 4, 2)
	puts(t, &c, q, 5, 3)
	same(t, s, p)
	c.Clear()
	c.Put(1, 1)
	same(t, s, p)
}

// TestNone: a nil set, and one that New has not made, have no room.
func TestNone(t *testing.T) {
	for _, s := range []*reads.Set{nil, {}} {
		for _, key := range keys() {
			if s.Put(key, 1) || s.Room(key) || s.Has(key) || s.At(key) != (api.Word{}) {
				t.Error(s, key)
			}
		}
		s.Clear()
		if s.Len() != 0 || len(s.Keys()) != 0 {
			t.Error(s, s.Len(), s.Keys())
		}
	}
}

// 13.2

// TestFirst: in every order in which some keys may come, with all of them put again in every other order, it is the first one that counts, and what was read with it then.
func TestFirst(t *testing.T) {
	for _, first := range orders(few[:]) {
		for _, again := range orders(few[:]) {
			s := reads.New(len(few))
			for i, key := range first {
				s.Put(key, int64(i))
			}
			for _, key := range again {
				s.Put(key, 99)
			}
			if !slices.Equal(s.Keys(), first) {
				t.Fatalf("%v, not %v", s.Keys(), first)
			}
			for i, key := range first {
				if s.At(i) != (api.Word{At: key, Val: int64(i)}) {
					t.Fatalf("At(%d) = %v, not %d with %d", i, s.At(i), key, i)
				}
			}
		}
	}
}

// orders is a list in all its orders.
func orders(list []int) [][]int {
	if len(list) == 0 {
		return [][]int{nil}
	}
	var all [][]int
	for i, first := range list {
		rest := slices.Delete(slices.Clone(list), i, i+1)
		for _, tail := range orders(rest) {
			all = append(all, append([]int{first}, tail...))
		}
	}
	return all
}
