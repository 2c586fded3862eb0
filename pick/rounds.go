package pick

import "syncope/api"

// How the number of a round is made out of the one ahead of it.
const (
	factor  = 6364136223846793005
	summand = 1442695040888963407
)

// Which bits of a round's number say what.
const (
	startBit  = 33 // from here on, modulo the threads: the one that it begins with
	downBit   = 60 // it goes down, not up
	abortBits = 36 // four bits for each of its picks; if they are 0, it aborts
	drawBits  = 8  // four bits for each of its picks
)

// Round is so many picks, of all threads in turn.
func Round(threads, many int) []api.Pick {
	l := blank(threads, many)
	for i := range l {
		l[i].Thread = i % threads
	}
	return l
}

// Mix is so many picks in rounds, of which each has all threads, in an order that the seed mixes.
func Mix(seed uint64, threads, many int) []api.Pick {
	l := blank(threads, many)
	x := seed
	for n := range l {
		i := n % threads
		if i == 0 {
			x = factor*x + summand
		}
		l[n] = mixed(x, threads, i)
	}
	return l
}

// blank is as many picks as are asked for and may be; none, if there can't be so many threads.
func blank(threads, many int) []api.Pick {
	if !within(threads, 1, api.MaxThreads) {
		return nil
	}
	return make([]api.Pick, min(max(many, 0), api.MaxPicks))
}

// mixed is the i-th pick of the round whose number is x.
func mixed(x uint64, threads, i int) api.Pick {
	return api.Pick{
		Thread: turn(x, threads, i),
		Abort:  fourBits(x, abortBits+4*i) == 0,
		Draw:   fourBits(x, drawBits+4*i),
	}
}

// turn is the thread of the i-th pick of that round.
func turn(x uint64, threads, i int) int {
	start := int((x >> startBit) % uint64(threads))
	if x>>downBit&1 == 1 {
		return (start - i + threads) % threads // a remainder below 0 would be no thread
	}
	return (start + i) % threads
}

// fourBits is the number that four bits of x are, from that one on.
func fourBits(x uint64, from int) int { return int(x >> from & 15) }
