package writes_test

import (
	"math"
	"slices"
	"testing"

	"syncope/api"
	"syncope/writes"
)

// rooms is as many as are asked for, and as many as there are then.
func rooms() map[int]int {
	return map[int]int{
		math.MinInt: 0, -1 << 32: 0, -2: 0, -1: 0, 0: 0, 1: 1, 2: 2, 3: 3, 31: 31,
		32: 32, 33: 32, 64: 32, 1 << 32: 32, 1<<32 + 1: 32, math.MaxInt: 32,
	}
}

// places is some places, among them such as share a bit of the filter, and its first and last one.
func places() []int {
	return []int{0, 1, 2, 31, 32, 33, 63, 64, 65, 127, 128, api.MaxWords - 1, api.MaxWords, 1 << 32, 1<<32 + 1, math.MaxInt - 64, math.MaxInt - 1, math.MaxInt}
}

// none is what is no place; some of it would have a bit of the filter, if its sign were overlooked.
func none() []int {
	return []int{math.MinInt, math.MinInt + 1, math.MinInt + 64, -1 << 32, -65, -64, -63, -32, -3, -2, -1}
}

// values is what may be to be written.
func values() []int64 {
	return []int64{math.MinInt64, -1 << 32, -1, 0, 1, 2, 1 << 32, math.MaxInt64}
}

// few is the places of the walks: so few that all that may be asked can be gone through; two of them share their bit, and one is none.
var few = [4]int{64, 0, 3, -64}

// plain is what a set should have.
type plain struct {
	room  int
	list  []api.Word
	asked int
}

// find is where a place stands; -1: nowhere.
func (p *plain) find(at int) int {
	return slices.IndexFunc(p.list, func(w api.Word) bool { return w.At == at })
}

// put is 14.1's Put.
func (p *plain) put(at int, val int64) bool {
	i := p.find(at)
	switch {
	case i >= 0:
		p.list[i].Val = val
	case at < 0 || len(p.list) == p.room:
		return false
	default:
		p.list = append(p.list, api.Word{At: at, Val: val})
	}
	return true
}

// get is 14.1's Get; it counts as 14.2 has it.
func (p *plain) get(at int) (int64, bool) {
	if at >= 0 && slices.ContainsFunc(p.list, func(w api.Word) bool { return w.At%64 == at%64 }) {
		p.asked++
	}
	if i := p.find(at); i >= 0 {
		return p.list[i].Val, true
	}
	return 0, false
}

// filter is 14.2's, as a sum of powers of 2.
func (p *plain) filter() uint64 {
	var all uint64
	for bit, power := 0, uint64(1); bit < 64; bit, power = bit+1, 2*power {
		if slices.ContainsFunc(p.list, func(w api.Word) bool { return w.At%64 == bit }) {
			all += power
		}
	}
	return all
}

// clear is 14.2's Clear.
func (p *plain) clear() { p.list, p.asked = nil, 0 }

// told holds what a set tells without a Get against what it should have.
func told(t *testing.T, s *writes.Set, p *plain) {
	t.Helper()
	if s.Len() != len(p.list) || !slices.Equal(s.List(), p.list) {
		t.Fatalf("%d words %v, not %v", s.Len(), s.List(), p.list)
	}
	if want := p.filter(); s.Filter() != want {
		t.Fatalf("filter of %v: %x, not %x", p.list, s.Filter(), want)
	}
	if s.Asked() != p.asked {
		t.Fatalf("%v: asked %d, not %d", p.list, s.Asked(), p.asked)
	}
}

// gets is a Get, and all that the set tells behind it.
func gets(t *testing.T, s *writes.Set, p *plain, at int) {
	t.Helper()
	val, ok := s.Get(at)
	if want, has := p.get(at); val != want || ok != has {
		t.Fatalf("Get(%d) of %v = %d, %v", at, p.list, val, ok)
	}
	told(t, s, p)
}

// same holds all that a set tells against what it should have.
func same(t *testing.T, s *writes.Set, p *plain) {
	t.Helper()
	told(t, s, p)
	for _, at := range slices.Concat(places(), none(), few[:]) {
		gets(t, s, p, at)
	}
	for _, w := range slices.Clone(p.list) {
		gets(t, s, p, w.At)
	}
}

// puts is a Put, and all that the set tells behind it.
func puts(t *testing.T, s *writes.Set, p *plain, at int, val int64) {
	t.Helper()
	if got, want := s.Put(at, val), p.put(at, val); got != want {
		t.Fatalf("Put(%d, %d) to %v of room %d = %v", at, val, p.list, p.room, got)
	}
	same(t, s, p)
}

// 14.1

// TestExample: the chapter's.
func TestExample(t *testing.T) {
	s := writes.New(2)
	if !s.Put(64, 5) || s.Filter() != 1 {
		t.Error(s.List(), s.Filter())
	}
	if val, ok := s.Get(0); val != 0 || ok || s.Asked() != 1 {
		t.Error(val, ok, s.Asked())
	}
}

// TestRoom: as many as there is room for, and one more; what is there may be put again all the same.
func TestRoom(t *testing.T) {
	for asked, room := range rooms() {
		s, p := writes.New(asked), &plain{room: room}
		same(t, s, p)
		for i := range room + 2 {
			puts(t, s, p, 7*i, int64(i))
		}
		if s.Len() != room {
			t.Fatalf("New(%d) has room for %d", asked, s.Len())
		}
		for i := range room + 2 {
			puts(t, s, p, 7*i, int64(99-i))
		}
	}
}

// TestPlacesAndValues: whatever they are, they are kept as they are, in the order in which they came, and each value gives way to each other one.
func TestPlacesAndValues(t *testing.T) {
	forth := places()
	back := slices.Clone(forth)
	slices.Reverse(back)
	for _, order := range [][]int{forth, back} {
		for turn := range values() {
			s, p := writes.New(api.MaxSet), &plain{room: api.MaxSet}
			for i, at := range order {
				puts(t, s, p, at, values()[(i+turn)%len(values())])
			}
			for i, at := range back {
				puts(t, s, p, at, values()[i%len(values())])
			}
		}
	}
}

// TestNoPlace: what is below 0 is never put, whatever there is, also where there is room.
func TestNoPlace(t *testing.T) {
	for _, room := range []int{0, 1, api.MaxSet} {
		s, p := writes.New(room), &plain{room: room}
		for i := -1; i < room; i++ {
			for _, at := range none() {
				puts(t, s, p, at, 1)
			}
			puts(t, s, p, i+1, 1)
		}
	}
}

// TestWalks: all that may be put, asked for, and cleared, in six calls, at little room.
func TestWalks(t *testing.T) {
	const calls, kinds = 6, 2*len(few) + 1
	for room := range 4 {
		total := 1
		for range calls {
			total *= kinds
		}
		for walk := range total {
			s, p := writes.New(room), &plain{room: room}
			for i, left := 0, walk; i < calls; i, left = i+1, left/kinds {
				step(t, s, p, left%kinds, int64(i+1))
			}
			told(t, s, p)
			for _, at := range few {
				gets(t, s, p, at)
			}
		}
	}
}

// step is one call of a walk: a Put or a Get of one of the few, or Clear.
func step(t *testing.T, s *writes.Set, p *plain, kind int, val int64) {
	t.Helper()
	switch at := few[kind%len(few)]; kind / len(few) {
	case 0:
		if got, want := s.Put(at, val), p.put(at, val); got != want {
			t.Fatalf("Put(%d) to %v of room %d = %v", at, p.list, p.room, got)
		}
	case 1:
		got, ok := s.Get(at)
		if want, has := p.get(at); got != want || ok != has {
			t.Fatalf("Get(%d) of %v = %d, %v", at, p.list, got, ok)
		}
	default:
		s.Clear()
		p.clear()
	}
}

// TestOwn: what List answers is the caller's own, and so is each set.
func TestOwn(t *testing.T) {
	s, p := writes.New(3), &plain{room: 3}
	puts(t, s, p, 9, 1)
	puts(t, s, p, 4, 2)
	early, other := s.List(), s.List()
	early[0] = api.Word{At: 70, Val: 70}
	if other[0] != (api.Word{At: 9, Val: 1}) {
		t.Error("two answers share their memory")
	}
	same(t, s, p)
	early = append(early, api.Word{At: 71, Val: 71})
	puts(t, s, p, 5, 3)
	puts(t, s, p, 4, 8)
	if !slices.Equal(early, []api.Word{{At: 70, Val: 70}, {At: 4, Val: 2}, {At: 71, Val: 71}}) || !slices.Equal(other, []api.Word{{At: 9, Val: 1}, {At: 4, Val: 2}}) {
		t.Error(early, other)
	}
	s.Clear()
	s.Put(1, 1)
	if !slices.Equal(other, []api.Word{{At: 9, Val: 1}, {At: 4, Val: 2}}) {
		t.Error(other)
	}
	a, b := writes.New(1), writes.New(1)
	if !a.Put(1, 1) || b.Len() != 0 || b.Filter() != 0 || !b.Put(2, 2) || a.List()[0].At != 1 || a.Filter() != 2 {
		t.Error("two sets share their memory")
	}
}

// TestCopy: a copy of a set goes on by itself.
func TestCopy(t *testing.T) {
	s, p := writes.New(3), &plain{room: 3}
	puts(t, s, p, 9, 1)
	c, q := *s, &plain{room: 3, list: slices.Clone(p.list), asked: p.asked}
	puts(t, s, p, 4, 2)
	puts(t, &c, q, 5, 3)
	puts(t, &c, q, 9, 4)
	same(t, s, p)
	c.Clear()
	c.Put(1, 1)
	same(t, s, p)
}

// TestNone: a nil set, and one that New has not made, have no room, and nothing looks at their list.
func TestNone(t *testing.T) {
	for _, s := range []*writes.Set{nil, {}} {
		for _, at := range append(places(), none()...) {
			if val, ok := s.Get(at); s.Put(at, 1) || val != 0 || ok {
				t.Error(s, at)
			}
		}
		s.Clear()
		if s.Len() != 0 || len(s.List()) != 0 || s.Filter() != 0 || s.Asked() != 0 {
			t.Error(s.Len(), s.List(), s.Filter(), s.Asked())
		}
	}
}

// 14.2

// TestFilter: each bit is that of the places which are as much above a multiple of 64, and of no other.
func TestFilter(t *testing.T) {
	for bit := range 64 {
		for _, far := range []int{0, 1, 2, 63, 1 << 26, 1 << 56, math.MaxInt / 64} {
			s, p := writes.New(2), &plain{room: 2}
			puts(t, s, p, 64*far+bit, 1)
			if s.Filter() != uint64(1)<<bit {
				t.Fatalf("filter of %d: %x", 64*far+bit, s.Filter())
			}
			for at := range 130 {
				gets(t, s, p, at)
			}
		}
	}
}

// TestRefused: what isn't put has no bit, and what is put again has no other one.
func TestRefused(t *testing.T) {
	s := writes.New(1)
	s.Put(2, 1)
	for _, at := range append(places(), none()...) {
		s.Put(at, 1)
		if s.Filter() != 4 {
			t.Fatalf("Put(%d): %x", at, s.Filter())
		}
	}
}

// TestAsked: it is Gets that are counted, each once, those that find something and those that don't; nothing else is.
func TestAsked(t *testing.T) {
	s, p := writes.New(4), &plain{room: 4}
	for i := range 3 {
		puts(t, s, p, 64*i+5, 1)
	}
	before := s.Asked()
	for i := range 100 {
		s.Get(5)
		s.Get(64*7 + 5)
		s.Get(6)
		s.Get(-59)
		s.Get(-5)
		s.Put(5, int64(i))
		s.Put(69, 1)
		s.Put(-59, 1)
		s.List()
		s.Len()
		s.Filter()
		if got := s.Asked(); got != before+2*(i+1) {
			t.Fatalf("asked %d, not %d", got, before+2*(i+1))
		}
	}
}

// TestClear: nothing is left, all the room is there again, and what comes next has the values that it comes with.
func TestClear(t *testing.T) {
	for asked, room := range rooms() {
		s, p := writes.New(asked), &plain{room: room}
		s.Clear()
		told(t, s, p)
		for turn := range 3 {
			for i := range room + 1 {
				puts(t, s, p, i*(turn+1), int64(turn))
			}
			s.Clear()
			p.clear()
			told(t, s, p)
			same(t, s, p)
			if room > 0 {
				p.clear()
				s.Clear()
				told(t, s, p)
			}
		}
	}
}

// 14.3

// TestLast: in every order in which some places may come, with all of them put again in every other order, it is the last one that is read, and they stand as they came first.
func TestLast(t *testing.T) {
	some := []int{64, 0, 3, 128}
	for _, first := range orders(some) {
		for _, again := range orders(some) {
			s := writes.New(len(some))
			for _, at := range first {
				s.Put(at, 99)
			}
			for i, at := range again {
				s.Put(at, int64(i))
				if val, ok := s.Get(at); val != int64(i) || !ok {
					t.Fatalf("Get(%d) = %d, %v, not %d", at, val, ok, i)
				}
			}
			for i, w := range s.List() {
				if w.At != first[i] || w.Val != int64(slices.Index(again, w.At)) {
					t.Fatalf("%v, not as %v with what %v has", s.List(), first, again)
				}
			}
		}
	}
}

// TestNotLookedFor: where the filter has not the bit, nobody looks, however full the list is; where it has, somebody does, also in vain.
func TestNotLookedFor(t *testing.T) {
	for _, step := range []int{1, 2, 3, 5, 16, 32, 64} {
		s := writes.New(api.MaxSet)
		for i := range api.MaxSet {
			s.Put(step*i, 1)
		}
		asked := 0
		for at := range 64 * 40 {
			has := at%step == 0 && at/step < api.MaxSet
			if s.Filter()>>(at%64)&1 == 1 {
				asked++
			}
			if _, ok := s.Get(at); ok != has || s.Asked() != asked {
				t.Fatalf("Get(%d), %d apart: %v, asked %d, not %d", at, step, ok, s.Asked(), asked)
			}
		}
	}
}

// orders is a list in all its orders.
func orders(list []int) [][]int {
	if len(list) == 0 {
		return [][]int{nil}
	}
	var all [][]int
	for i, first := range list {
		rest := slices.Delete(slices.Clone(list), i, i+1)
		for _, tail := range orders(rest) {
			all = append(all, append([]int{first}, tail...))
		}
	}
	return all
}
