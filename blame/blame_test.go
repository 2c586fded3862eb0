package blame_test

import (
	"errors"
	"math"
	"slices"
	"strconv"
	"strings"
	"testing"

	"syncope/api"
	"syncope/blame"
)

// wrap is an error of another kind around one.
type wrap struct{ inner error }

func (w *wrap) Error() string { return "wrap" }
func (w *wrap) Unwrap() error { return w.inner }

// list is an error that can't be a map's key, around several.
type list []error

func (l list) Error() string   { return "list" }
func (l list) Unwrap() []error { return l }

// claim says of itself that it is a code's error, and an At.
type claim struct {
	code int
	at   *blame.At
}

func (c claim) Error() string        { return "claim" }
func (c claim) Is(target error) bool { return target == blame.New(c.code) }
func (c claim) As(target any) bool {
	at, ok := target.(**blame.At)
	if ok {
		*at = c.at
	}
	return ok
}

// broken panics whatever it is asked.
type broken struct{}

func (*broken) Error() string { panic("Error") }
func (*broken) Unwrap() error { panic("Unwrap") }
func (*broken) Is(error) bool { panic("Is") }
func (*broken) As(any) bool   { panic("As") }

var noAt *blame.At

func codes() []int {
	return []int{api.ErrArg, api.ErrRange, api.ErrText, api.ErrLarge, api.ErrBlock, api.ErrLock, api.ErrMode, api.ErrOrder, api.ErrCond, api.ErrState}
}

// 1.1

func TestNewIsOneErrorEach(t *testing.T) {
	for _, c := range codes() {
		if blame.New(c) == nil || blame.New(c) != blame.New(c) {
			t.Errorf("New(%d) is not always the same", c)
		}
		for _, d := range codes() {
			if errors.Is(blame.New(c), blame.New(d)) != (c == d) {
				t.Errorf("errors.Is of New(%d) and New(%d)", c, d)
			}
		}
	}
}

func TestNewOfOtherCodes(t *testing.T) {
	for _, c := range []int{0, -1, 11, 256 + 1, math.MinInt, math.MaxInt} {
		if err := blame.New(c); err != nil {
			t.Errorf("New(%d) = %v", c, err)
		}
	}
}

func TestPut(t *testing.T) {
	inner := blame.New(api.ErrLock)
	at, ok := blame.Put(inner, -1, 7).(*blame.At)
	if !ok || *at != (blame.At{Thread: -1, Place: 7, Err: inner}) {
		t.Errorf("Put = %v, %v", at, ok)
	}
	if err := blame.Put(nil, 1, 2); err != nil {
		t.Errorf("Put of nil = %v", err)
	}
	if blame.Put(inner, 1, 2) == blame.Put(inner, 1, 2) {
		t.Error("two Put share one At")
	}
	outer := blame.Put(at, 2, 3)
	if *at != (blame.At{Thread: -1, Place: 7, Err: inner}) || errors.Unwrap(outer) != error(at) {
		t.Errorf("Put around an At = %v, which is now %v", outer, at)
	}
	if blame.Put(noAt, 1, 2) == nil {
		t.Error("Put of an error that is a nil At is nil")
	}
}

func TestUnwrap(t *testing.T) {
	inner := &wrap{}
	if got := (&blame.At{Err: inner}).Unwrap(); got != error(inner) {
		t.Errorf("Unwrap = %v", got)
	}
	if got := (&blame.At{Thread: 1, Place: 2}).Unwrap(); got != nil {
		t.Errorf("Unwrap of an At around nil = %v", got)
	}
	if got := noAt.Unwrap(); got != nil {
		t.Errorf("Unwrap of nil = %v", got)
	}
	if err := blame.Put(blame.New(api.ErrMode), 1, 2); !errors.Is(err, blame.New(api.ErrMode)) || errors.Is(err, blame.New(api.ErrLock)) {
		t.Error("errors.Is does not see through Put")
	}
}

// 1.2

func TestCode(t *testing.T) {
	for _, c := range codes() {
		err := blame.New(c)
		for _, e := range []error{err, &wrap{err}, blame.Put(err, 0, 0), blame.Put(&wrap{blame.Put(err, 1, 2)}, 0, 0), errors.Join(&wrap{}, err), list{nil, &wrap{err}}, claim{code: c}, &wrap{claim{code: c}}} {
			if got := blame.Code(e); got != c {
				t.Errorf("Code(%v) = %d, not %d", e, got, c)
			}
		}
	}
}

func TestCodeOfNone(t *testing.T) {
	for _, e := range []error{nil, errors.New("code 1"), &wrap{}, &wrap{errors.New("code 3")}, &blame.At{Thread: 1, Place: 2}, noAt, &wrap{noAt}, list{}, claim{code: 11}} {
		if got := blame.Code(e); got != 0 {
			t.Errorf("Code(%v) = %d", e, got)
		}
	}
}

func TestCodeOfSeveralIsTheLeast(t *testing.T) {
	if got := blame.Code(errors.Join(blame.New(9), blame.Put(blame.New(2), 0, 0), blame.New(5))); got != 2 {
		t.Errorf("Code = %d", got)
	}
}

func TestPlaces(t *testing.T) {
	code := blame.New(api.ErrText)
	two := blame.Put(blame.Put(code, 0, 3), 1, 2)
	for _, c := range []struct {
		name          string
		err           error
		thread, place int
		ok            bool
		trail         []int
	}{
		{"nil", nil, 0, 0, false, nil},
		{"a code", code, 0, 0, false, nil},
		{"another kind", &wrap{code}, 0, 0, false, nil},
		{"a nil At", noAt, 0, 0, false, nil},
		{"within it a nil At", &wrap{noAt}, 0, 0, false, nil},
		{"an At of noughts", blame.Put(code, 0, 0), 0, 0, true, []int{0}},
		{"an At around nil", &blame.At{Thread: 4, Place: 5}, 4, 5, true, []int{5}},
		{"an At around a nil At", blame.Put(noAt, 4, 5), 4, 5, true, []int{5}},
		{"the ends of int", blame.Put(code, math.MinInt, math.MaxInt), math.MinInt, math.MaxInt, true, []int{math.MaxInt}},
		{"two", two, 1, 2, true, []int{2, 3}},
		{"two within another kind", &wrap{two}, 1, 2, true, []int{2, 3}},
		{"another kind between", blame.Put(&wrap{two}, -1, -1), -1, -1, true, []int{-1, 2, 3}},
		{"joined", errors.Join(code, two, blame.Put(code, 7, 8)), 1, 2, true, []int{2, 3, 8}},
		{"a nil At first", list{noAt, two}, 1, 2, true, []int{2, 3}},
		{"one that says it is an At", &wrap{claim{at: &blame.At{Thread: 5, Place: 6}}}, 5, 6, true, []int{6}},
	} {
		thread, place, ok := blame.Where(c.err)
		if thread != c.thread || place != c.place || ok != c.ok {
			t.Errorf("%s: Where = %d, %d, %v", c.name, thread, place, ok)
		}
		if trail := blame.Trail(c.err); !slices.Equal(trail, c.trail) {
			t.Errorf("%s: Trail = %v", c.name, trail)
		}
	}
}

func TestTrailIsTheCallersOwn(t *testing.T) {
	err := blame.Put(blame.Put(blame.New(1), 0, 3), 1, 2)
	blame.Trail(err)[0] = 9
	if trail := blame.Trail(err); !slices.Equal(trail, []int{2, 3}) {
		t.Errorf("Trail = %v", trail)
	}
}

func TestText(t *testing.T) {
	for _, c := range []struct {
		want string
		err  error
	}{
		{"", nil},
		{"", noAt},
		{"code 1", blame.New(1)},
		{"code 10", blame.New(10)},
		{"wrap", &wrap{blame.New(1)}},
		{"list", list{blame.Put(blame.New(1), 1, 2)}},
		{"wrap", &wrap{blame.Put(blame.New(1), 1, 2)}},
		{"thread 0, place 0: code 3", blame.Put(blame.New(3), 0, 0)},
		{"thread -1, place -20: wrap", blame.Put(&wrap{}, -1, -20)},
		{"thread 1, place 2: ", &blame.At{Thread: 1, Place: 2}},
		{"thread 1, place 2: ", blame.Put(noAt, 1, 2)},
		{"thread 1, place 2: thread 0, place 3: code 5", blame.Put(blame.Put(blame.New(5), 0, 3), 1, 2)},
		{"thread 1, place 2: thread 3, place 4: code 5\ncode 6", blame.Put(errors.Join(blame.Put(blame.New(5), 3, 4), blame.New(6)), 1, 2)},
		{"thread 9223372036854775807, place -9223372036854775808: code 1", blame.Put(blame.New(1), math.MaxInt64, math.MinInt64)},
	} {
		if got := blame.Text(c.err); got != c.want {
			t.Errorf("Text = %q, not %q", got, c.want)
		}
		if c.err != nil && c.err.Error() != c.want {
			t.Errorf("Error = %q, not %q", c.err.Error(), c.want)
		}
	}
}

func TestTextOfEachCode(t *testing.T) {
	for _, c := range codes() {
		if got := blame.Text(blame.New(c)); got != "code "+strconv.Itoa(c) {
			t.Errorf("Text of New(%d) = %q", c, got)
		}
	}
}

// 1.3

func TestHandedUpOften(t *testing.T) {
	const times = 300_000
	err := blame.New(api.ErrCond)
	for i := range times {
		err = blame.Put(err, 0, i)
	}
	if got := blame.Code(err); got != api.ErrCond {
		t.Errorf("Code = %d", got)
	}
	if _, place, ok := blame.Where(err); place != times-1 || !ok {
		t.Errorf("Where = %d, %v", place, ok)
	}
	trail := blame.Trail(err)
	if len(trail) != times {
		t.Fatalf("%d places", len(trail))
	}
	for i, place := range trail {
		if place != times-1-i {
			t.Fatalf("place %d is %d", i, place)
		}
	}
	text := blame.Text(err)
	if !strings.HasPrefix(text, "thread 0, place 299999: thread 0, place 299998: ") || !strings.HasSuffix(text, "thread 0, place 0: code 9") || strings.Count(text, "thread") != times {
		t.Errorf("Text of %d bytes", len(text))
	}
}

// Every call ends, and none panics.

func TestRingOfAts(t *testing.T) {
	a, b := &blame.At{Thread: 1, Place: 2}, &blame.At{Thread: 3, Place: 4}
	a.Err, b.Err = b, a
	checkRing(t, a, 0, []int{2, 4}, "thread 1, place 2: thread 3, place 4: ")
}

func TestRingThroughOthers(t *testing.T) {
	a, b := &blame.At{Thread: 1, Place: 2}, &blame.At{Thread: 3, Place: 4}
	a.Err = errors.Join(blame.New(7), b)
	b.Err = errors.Join(a, blame.New(6))
	checkRing(t, a, 6, []int{2, 4}, "thread 1, place 2: ")
	checkRing(t, &wrap{a}, 6, []int{2, 4}, "wrap")
}

func TestRingOfOthers(t *testing.T) {
	w := &wrap{}
	w.inner = w
	checkRing(t, w, 0, nil, "wrap")
	checkRing(t, errors.Join(w, blame.Put(blame.New(8), 1, 2)), 8, []int{2}, "wrap\nthread 1, place 2: code 8")
}

func checkRing(t *testing.T, err error, code int, trail []int, text string) {
	t.Helper()
	if got := blame.Code(err); got != code {
		t.Errorf("Code = %d", got)
	}
	if got := blame.Trail(err); !slices.Equal(got, trail) {
		t.Errorf("Trail = %v", got)
	}
	if _, place, ok := blame.Where(err); ok != (len(trail) > 0) || ok && place != trail[0] {
		t.Errorf("Where = %d, %v", place, ok)
	}
	if got := blame.Text(err); got != text {
		t.Errorf("Text = %q", got)
	}
}

func TestPanicsWithin(t *testing.T) {
	err := error(&broken{})
	checkRing(t, err, 0, nil, "")
	checkRing(t, blame.Put(err, 1, 2), 0, []int{2}, "thread 1, place 2: ")
	var none *wrap
	checkRing(t, none, 0, nil, "wrap")
	checkRing(t, list{err, none, blame.Put(blame.New(4), 1, 2)}, 4, []int{2}, "list")
}
