package pick_test

import (
	"math"
	"math/big"
	"slices"
	"testing"

	"syncope/api"
	"syncope/pick"
)

// by is picks of these threads, one behind the other.
func by(threads ...int) []api.Pick {
	var l []api.Pick
	for _, t := range threads {
		l = append(l, api.Pick{Thread: t})
	}
	return l
}

// outside is numbers that are not from 0 to most.
func outside(most int) []int {
	return []int{math.MinInt, math.MinInt + 1, -256, -2, -1, most + 1, most + 2, 256, 1 << 32, math.MaxInt - 1, math.MaxInt}
}

// 7.1

// bytes is each pick that has a byte, at that byte; the fourth bit is 0 in all of them.
func bytes() map[int]api.Pick {
	all := map[int]api.Pick{}
	for thread := range 4 {
		for draw := range 16 {
			all[thread+16*draw] = api.Pick{Thread: thread, Draw: draw}
			all[thread+4+16*draw] = api.Pick{Thread: thread, Abort: true, Draw: draw}
		}
	}
	return all
}

func TestEachByte(t *testing.T) {
	all := bytes()
	if len(all) != 128 {
		t.Fatalf("there are %d", len(all))
	}
	for x, p := range all {
		for _, said := range []byte{byte(x), byte(x) + 8} {
			if got := pick.Read([]byte{said}); !slices.Equal(got, []api.Pick{p}) {
				t.Errorf("Read(%08b) = %v, not %v", said, got, p)
			}
		}
		if got, ok := pick.Put(p); !ok || !slices.Equal(got, []byte{byte(x)}) {
			t.Errorf("Put(%v) = %08b, %v, not %08b", p, got, ok, x)
		}
	}
}

func TestRowsOfBytes(t *testing.T) {
	all := bytes()
	var row, plain []byte
	var want []api.Pick
	for x := 255; x >= 0; x-- {
		row = append(row, byte(x))
		plain = append(plain, byte(x&^8))
		want = append(want, all[x&^8])
	}
	given := slices.Clone(row)
	got := pick.Read(row)
	if !slices.Equal(got, want) {
		t.Errorf("Read of all bytes = %v", got)
	}
	if !slices.Equal(row, given) {
		t.Errorf("Read leaves %v", row)
	}
	back, ok := pick.Put(got...)
	if !ok || !slices.Equal(back, plain) {
		t.Errorf("Put of all picks = %v, %v", back, ok)
	}
	if !slices.Equal(got, want) {
		t.Errorf("Put leaves %v", got)
	}
}

func TestNoBytes(t *testing.T) {
	if got := pick.Read(nil); len(got) != 0 {
		t.Errorf("Read(nil) = %v", got)
	}
	if got := pick.Read([]byte{}); len(got) != 0 {
		t.Errorf("Read of none = %v", got)
	}
	if got, ok := pick.Put(); !ok || len(got) != 0 {
		t.Errorf("Put() = %v, %v", got, ok)
	}
	if got, ok := pick.Put([]api.Pick{}...); !ok || len(got) != 0 {
		t.Errorf("Put of none = %v, %v", got, ok)
	}
}

func TestPutOfWhatHasNoByte(t *testing.T) {
	var wrong []api.Pick
	for _, n := range outside(3) {
		wrong = append(wrong, api.Pick{Thread: n}, api.Pick{Thread: n, Abort: true, Draw: 15})
	}
	for _, n := range outside(15) {
		wrong = append(wrong, api.Pick{Draw: n}, api.Pick{Thread: 3, Abort: true, Draw: n}, api.Pick{Thread: n, Draw: n})
	}
	for _, p := range wrong {
		for at := range 3 {
			l := by(1, 2, 3)
			l[at] = p
			if got, ok := pick.Put(l...); ok || len(got) != 0 {
				t.Errorf("Put(%v) = %v, %v", l, got, ok)
			}
		}
		if got, ok := pick.Put(p); ok || len(got) != 0 {
			t.Errorf("Put(%v) = %v, %v", p, got, ok)
		}
	}
}

func TestAnswersAreTheCallersOwn(t *testing.T) {
	b := []byte{1, 2}
	first := pick.Read(b)
	first[0] = api.Pick{Thread: 3}
	if again := pick.Read(b); !slices.Equal(again, by(1, 2)) {
		t.Errorf("Read, once more: %v", again)
	}
	l := by(1, 2)
	bytes, _ := pick.Put(l...)
	bytes[0] = 9
	if again, _ := pick.Put(l...); !slices.Equal(again, []byte{1, 2}) {
		t.Errorf("Put, once more: %v", again)
	}
	for name, of := range map[string]func() []api.Pick{
		"Round": func() []api.Pick { return pick.Round(3, 9) },
		"Mix":   func() []api.Pick { return pick.Mix(5, 3, 9) },
	} {
		got := of()
		want := slices.Clone(got)
		clear(got)
		if again := of(); !slices.Equal(again, want) {
			t.Errorf("%s, once more: %v, not %v", name, again, want)
		}
	}
}

// 7.2: Fair

// fair is Fair, window by window.
func fair(l []api.Pick, threads, k int) bool {
	if threads < 1 || threads > 4 || k < 1 {
		return false
	}
	for from := 0; k <= len(l)-from; from++ {
		for t := range threads {
			if !slices.ContainsFunc(l[from:from+k], func(p api.Pick) bool { return p.Thread == t }) {
				return false
			}
		}
	}
	return true
}

// rows calls do with each row of up to most picks of threads from -1 to last.
func rows(most, last int, do func(l []api.Pick)) {
	var l []api.Pick
	var more func()
	more = func() {
		do(l)
		if len(l) == most {
			return
		}
		for t := -1; t <= last; t++ {
			l = append(l, api.Pick{Thread: t})
			more()
			l = l[:len(l)-1]
		}
	}
	more()
}

func TestFairOfAllShortRows(t *testing.T) {
	seen := map[bool]int{}
	rows(6, 4, func(l []api.Pick) {
		for threads := -1; threads <= 6; threads++ {
			for k := -1; k <= len(l)+2; k++ {
				got := pick.Fair(l, threads, k)
				if got != fair(l, threads, k) {
					t.Fatalf("Fair(%v, %d, %d) = %v", l, threads, k, got)
				}
				seen[got]++
			}
		}
	})
	if seen[true] == 0 || seen[false] == 0 {
		t.Errorf("they are %v", seen)
	}
}

func TestFairOfLongRows(t *testing.T) {
	for threads := 1; threads <= 4; threads++ {
		for gap := range 40 { // thread 0 is missed for so many picks, somewhere
			for at := 0; at+gap <= 90; at += 7 {
				l := pick.Round(threads, 90)
				for i := at; i < at+gap; i++ {
					l[i].Thread = (i - at) % 4
					if l[i].Thread == 0 {
						l[i].Thread = 9
					}
				}
				for k := 1; k <= 92; k++ {
					if got := pick.Fair(l, threads, k); got != fair(l, threads, k) {
						t.Fatalf("Fair(%v, %d, %d) = %v", l, threads, k, got)
					}
				}
			}
		}
	}
}

func TestFairAtTheEndsOfInt(t *testing.T) {
	l := by(0, 0, math.MinInt, math.MaxInt)
	for _, k := range []int{5, 6, math.MaxInt - 1, math.MaxInt} { // there are fewer
		if !pick.Fair(l, 4, k) || !pick.Fair(nil, 1, k) {
			t.Errorf("Fair of k %d", k)
		}
	}
	for _, k := range []int{0, -1, -4, math.MinInt, math.MinInt + 1} {
		if pick.Fair(by(0), 1, k) || pick.Fair(nil, 1, k) {
			t.Errorf("Fair of k %d", k)
		}
	}
	for _, threads := range append(outside(4), 0) {
		if pick.Fair(l, threads, 9) || pick.Fair(nil, threads, 1) {
			t.Errorf("Fair of %d threads", threads)
		}
	}
	if pick.Fair(by(math.MinInt), 1, 1) || pick.Fair(by(math.MaxInt), 1, 1) || pick.Fair(by(256), 1, 1) || pick.Fair(by(1<<32), 1, 1) {
		t.Error("Fair of threads that are none")
	}
	if !pick.Fair(by(math.MinInt, 0, math.MaxInt, 0, -1, 0, 4), 1, 2) {
		t.Error("Fair beside threads that are none")
	}
}

func TestFairAsksForNothingElse(t *testing.T) {
	l := []api.Pick{{Thread: 1, Abort: true, Draw: 99}, {Draw: -7}, {Thread: 1, Draw: math.MinInt}, {Abort: true}}
	given := slices.Clone(l)
	if !pick.Fair(l, 2, 2) || pick.Fair(l, 2, 1) {
		t.Errorf("Fair(%v)", l)
	}
	if !slices.Equal(l, given) {
		t.Errorf("Fair leaves %v", l)
	}
}

// 7.2: Round

func TestRound(t *testing.T) {
	if got := pick.Round(2, 3); !slices.Equal(got, by(0, 1, 0)) {
		t.Errorf("Round(2, 3) = %v", got)
	}
	for threads := 1; threads <= 4; threads++ {
		var want []api.Pick
		for len(want) < 30 {
			if got := pick.Round(threads, len(want)); !slices.Equal(got, want) {
				t.Errorf("Round(%d, %d) = %v", threads, len(want), got)
			}
			next := 0
			if n := len(want); n > 0 && want[n-1].Thread < threads-1 {
				next = want[n-1].Thread + 1
			}
			want = append(want, api.Pick{Thread: next})
		}
	}
}

func TestRoundIsFairOfItsThreads(t *testing.T) {
	for threads := 1; threads <= 4; threads++ {
		l := pick.Round(threads, 50)
		if !pick.Fair(l, threads, threads) || threads > 1 && pick.Fair(l, threads, threads-1) {
			t.Errorf("Round of %d threads", threads)
		}
	}
}

// 7.2, 7.3: how many

func TestHowMany(t *testing.T) {
	most := api.MaxPicks
	asked := map[int]int{math.MinInt: 0, -1: 0, 0: 0, 1: 1, 7: 7, most - 1: most - 1, most: most, most + 1: most, 1 << 40: most, math.MaxInt: most}
	for threads := 1; threads <= 4; threads++ {
		for many, want := range asked {
			if got := len(pick.Round(threads, many)); got != want {
				t.Errorf("Round(%d, %d) is %d", threads, many, got)
			}
			if got := len(pick.Mix(3, threads, many)); got != want {
				t.Errorf("Mix(3, %d, %d) is %d", threads, many, got)
			}
		}
	}
	for _, threads := range append(outside(4), 0) {
		for many := range asked {
			if got := pick.Round(threads, many); len(got) != 0 {
				t.Errorf("Round(%d, %d) is %d", threads, many, len(got))
			}
			if got := pick.Mix(3, threads, many); len(got) != 0 {
				t.Errorf("Mix(3, %d, %d) is %d", threads, many, len(got))
			}
		}
	}
}

// 7.3

// mixed is Mix in whole numbers: bit by bit, and nothing wraps.
func mixed(seed uint64, threads, many int) []api.Pick {
	factor, _ := new(big.Int).SetString("6364136223846793005", 10)
	summand, _ := new(big.Int).SetString("1442695040888963407", 10)
	end := new(big.Int).Lsh(big.NewInt(1), 64)
	x := new(big.Int).SetUint64(seed)
	bits := func(from, until int) int {
		n := 0
		for b := until; b >= from; b-- {
			n = 2*n + int(x.Bit(b))
		}
		return n
	}
	var l []api.Pick
	for {
		x.Mul(x, factor)
		x.Add(x, summand)
		x.Mod(x, end)
		thread := bits(33, 63) % threads
		for i := range threads {
			if len(l) >= many {
				return l
			}
			l = append(l, api.Pick{Thread: thread, Abort: bits(36+4*i, 39+4*i) == 0, Draw: bits(8+4*i, 11+4*i)})
			switch down := x.Bit(60) == 1; {
			case down && thread == 0:
				thread = threads - 1
			case down:
				thread--
			case thread == threads-1:
				thread = 0
			default:
				thread++
			}
		}
	}
}

// seedOf is the seed whose first round has the number x.
func seedOf(x uint64) uint64 {
	const factor, summand = 6364136223846793005, 1442695040888963407
	back := uint64(1)
	for range 6 { // each time twice as many bits of back times factor are those of 1
		back *= 2 - factor*back
	}
	return (x - summand) * back
}

func TestMixByHand(t *testing.T) {
	// The number of the first round of seed 0 is 14057b7ef767814f: bit 60 is 1, and it is 3 modulo 4, shifted down by 33.
	want := []api.Pick{{Thread: 3, Draw: 1}, {Thread: 2, Draw: 8}, {Thread: 1, Draw: 7}, {Thread: 0, Draw: 6}}
	if got := pick.Mix(0, 4, 4); !slices.Equal(got, want) {
		t.Errorf("Mix(0, 4, 4) = %v", got)
	}
	if got := pick.Mix(seedOf(0), 4, 4); !slices.Equal(got, []api.Pick{{Thread: 0, Abort: true}, {Thread: 1, Abort: true}, {Thread: 2, Abort: true}, {Thread: 3, Abort: true}}) {
		t.Errorf("a round of 0: %v", got)
	}
	if got := pick.Mix(seedOf(math.MaxUint64), 4, 4); !slices.Equal(got, []api.Pick{{Thread: 3, Draw: 15}, {Thread: 2, Draw: 15}, {Thread: 1, Draw: 15}, {Thread: 0, Draw: 15}}) {
		t.Errorf("a round of ones: %v", got)
	}
	// Thread 1 first, and up; then down. The second pick is aborted, its draw is 9.
	up := uint64(1)<<33 | 0x1101<<36 | 0x5694<<8
	if got := pick.Mix(seedOf(up), 4, 4); !slices.Equal(got, []api.Pick{{Thread: 1, Draw: 4}, {Thread: 2, Abort: true, Draw: 9}, {Thread: 3, Draw: 6}, {Thread: 0, Draw: 5}}) {
		t.Errorf("up: %v", got)
	}
	down := up | 1<<60
	if got := pick.Mix(seedOf(down), 4, 4); !slices.Equal(got, []api.Pick{{Thread: 1, Draw: 4}, {Thread: 0, Abort: true, Draw: 9}, {Thread: 3, Draw: 6}, {Thread: 2, Draw: 5}}) {
		t.Errorf("down: %v", got)
	}
}

func TestMixBitByBit(t *testing.T) {
	var numbers []uint64
	for b := range 64 {
		one := uint64(1) << b
		numbers = append(numbers, one, ^one, one|1<<60, one-1)
		for c := range b {
			numbers = append(numbers, one|1<<c)
		}
	}
	for _, x := range numbers {
		for threads := 1; threads <= 4; threads++ {
			seed := seedOf(x)
			if got, want := pick.Mix(seed, threads, threads), mixed(seed, threads, threads); !slices.Equal(got, want) {
				t.Errorf("a round of %d threads and the number %x: %v, not %v", threads, x, got, want)
			}
		}
	}
}

// seeds is some that are at an end, and many that lie about.
func seeds() []uint64 {
	l := []uint64{math.MaxUint64, math.MaxUint64 - 1, 1 << 63, 1<<63 - 1, 1 << 32, seedOf(0), seedOf(1), seedOf(math.MaxUint64)}
	for i := range uint64(300) {
		l = append(l, i, i*0x9e3779b97f4a7c15)
	}
	return l
}

func TestMix(t *testing.T) {
	for _, seed := range seeds() {
		for threads := 1; threads <= 4; threads++ {
			want := mixed(seed, threads, 41)
			for _, many := range []int{0, 1, 2, 3, 4, 5, 8, 39, 40, 41} {
				if got := pick.Mix(seed, threads, many); !slices.Equal(got, want[:many]) {
					t.Fatalf("Mix(%d, %d, %d) = %v, not %v", seed, threads, many, got, want[:many])
				}
			}
		}
	}
}

func TestMixOfAsManyAsMayBe(t *testing.T) {
	for threads := 1; threads <= 4; threads++ {
		got := pick.Mix(11, threads, math.MaxInt)
		if want := mixed(11, threads, api.MaxPicks); !slices.Equal(got, want) {
			t.Errorf("Mix(11, %d) is another one", threads)
		}
	}
}

func TestMixHasEachThreadOnceARound(t *testing.T) {
	for _, seed := range seeds() {
		for threads := 1; threads <= 4; threads++ {
			for round := range slices.Chunk(pick.Mix(seed, threads, 12*threads), threads) {
				for thread := range threads {
					if !slices.ContainsFunc(round, func(p api.Pick) bool { return p.Thread == thread }) {
						t.Fatalf("Mix(%d, %d): a round %v", seed, threads, round)
					}
				}
			}
		}
	}
}

// 7.4 (with T5)

func TestMixIsFair(t *testing.T) {
	nearer := map[int]int{} // of so many threads, how many seeds are Fair of one less, too
	for _, seed := range seeds() {
		for threads := 1; threads <= 4; threads++ {
			for _, many := range []int{0, 1, 2*threads - 1, 2 * threads, 101} {
				if l := pick.Mix(seed, threads, many); !pick.Fair(l, threads, 2*threads-1) || !fair(l, threads, 2*threads-1) {
					t.Errorf("Mix(%d, %d, %d) isn't Fair", seed, threads, many)
				}
			}
			if pick.Fair(pick.Mix(seed, threads, 101), threads, 2*threads-2) {
				nearer[threads]++
			}
		}
	}
	for threads := 1; threads <= 4; threads++ {
		if nearer[threads] == len(seeds()) {
			t.Errorf("Mix of %d threads is Fair of %d", threads, 2*threads-2)
		}
	}
}

func TestMixIsFairToItsEnd(t *testing.T) {
	for threads := 1; threads <= 4; threads++ {
		if !pick.Fair(pick.Mix(42, threads, api.MaxPicks), threads, 2*threads-1) {
			t.Errorf("Mix of %d threads isn't Fair", threads)
		}
	}
}

func TestPutOfMix(t *testing.T) {
	for threads := 1; threads <= 4; threads++ {
		l := pick.Mix(8, threads, 500)
		b, ok := pick.Put(l...)
		if !ok || !slices.Equal(pick.Read(b), l) {
			t.Errorf("Mix of %d threads, as bytes: %v, %v", threads, b, ok)
		}
	}
}
