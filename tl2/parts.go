package tl2

import (
	"syncope/api"
	"syncope/mem"
	"syncope/place"
	"syncope/stripe"
	"syncope/vclock"
)

// part is a row of accesses, of which there may be none; what is asked is some of these rows, one behind the other.
type part int

const (
	timing      part = iota // the clock is looked at
	seeing                  // so is the stripe of what is read
	fetching                // what is read
	seeingAgain             // its stripe, once more
	watching                // what is watched
	renewing                // the stripes that were read
	entering                // Phase says that it commits
	taking                  // each stripe of what is to be written is looked at, and then taken
	bumping                 // a stamp is made
	checking                // the stripes that were read, unless nobody else had time to turn them
	writing                 // what is to be written
	freeing                 // the stripes have their new version
	restoring               // what stood there is put back into the stripes that were taken
	leaving                 // Phase says no more that it commits

	// Without any access: what comes with the one ahead of it.
	noting   // what was read counts
	dating   // what was seen of the clock is the stamp
	deciding // it can't be aborted any more
	ending   // it is committed
)

// nobody is who holds a stripe that is free; committing is a Phase.
const (
	nobody     = -1
	committing = 2
)

// ready tells whether it may be asked: it is alive, and nothing is under way.
func (x *Tx) ready() bool { return x != nil && x.alive && len(x.parts) == 0 }

// ask has these parts come next, and nothing else.
func (x *Tx) ask(parts ...part) int {
	x.parts, x.done = parts, 0
	return x.goOn()
}

// abort has it dead, but for what is to be undone.
func (x *Tx) abort(cause int) int {
	x.alive, x.cause, x.made = false, cause, 0
	return x.ask(restoring, leaving)
}

// goOn passes the parts of which no access is left, and tells how it stands then.
func (x *Tx) goOn() int {
	for len(x.parts) > 0 {
		p := x.parts[0]
		if x.left(p) {
			return api.TBusy
		}
		x.pass(p)
		x.parts, x.done = x.parts[1:], 0
	}
	if !x.alive && !x.decided {
		return api.TDead
	}
	return api.TDone
}

// left tells whether a part has an access behind those that are done.
func (x *Tx) left(p part) bool {
	switch p {
	case watching:
		return x.done < len(x.watched)
	case checking:
		if x.alone() {
			return false
		}
		fallthrough
	case renewing:
		return x.done < x.reads.Len()
	case taking:
		return x.done < 2*len(x.rows)
	case bumping:
		return x.bump.State != vclock.Done
	case writing:
		return x.done < x.writes.Len()
	case freeing:
		return x.done < len(x.rows)
	case restoring:
		return x.done < len(x.taken)
	case leaving:
		return x.phased
	case noting, dating, deciding, ending:
		return false
	}
	return x.done == 0
}

// pass is what comes with the last access of a part, or of the one ahead of it.
func (x *Tx) pass(p part) {
	switch p {
	case noting:
		x.value = x.found
		x.reads.Put(x.row, 0)
	case dating:
		x.stamp = x.now
	case deciding:
		x.decided = true
	case ending:
		x.alive = false
		if x.writes.Len() > 0 {
			x.stamp = x.made
		}
	}
}

// access does the i-th access of a part; it tells the cause that is found by it, 0: none.
func (x *Tx) access(w *mem.Mem, p part, i int) int {
	switch p {
	case timing:
		x.now, _ = w.Load(place.Clock(x.m))
	case seeing:
		x.saw = x.look(w, x.row)
		return stripe.Fresh(x.saw, x.stamp)
	case fetching:
		x.found, _ = w.Load(x.at)
	case seeingAgain:
		return unlike(w, x.stripeAt(x.row), x.saw, api.CStale)
	case watching:
		return unlike(w, x.watched[i].At, x.watched[i].Val, api.CWatch)
	case renewing:
		return stripe.Fresh(x.look(w, x.reads.At(i).At), x.stamp)
	case taking:
		return x.take(w, x.rows[i/2], i%2 == 1)
	case bumping:
		return x.bumpOn(w)
	case checking:
		return x.spoilt(x.look(w, x.reads.At(i).At))
	case entering:
		w.Store(x.phase(), committing)
		x.phased = true
	case writing:
		word := x.writes.List()[i]
		w.Store(word.At, word.Val)
	case freeing:
		w.Store(x.stripeAt(x.rows[i]), stripe.Free(x.made))
	case restoring:
		w.Store(x.stripeAt(x.rows[i]), x.taken[i])
	case leaving:
		w.Store(x.phase(), 0)
		x.phased = false
	}
	return 0
}

// take brings a stripe of what is to be written one access nearer to being its own: it is looked at, and then swapped, if it is so still.
func (x *Tx) take(w *mem.Mem, row int, seen bool) int {
	if !seen {
		x.saw = x.look(w, row)
		if stripe.Holder(x.saw) != nobody {
			return api.CLocked
		}
		return 0
	}
	if _, done, _ := w.Swap(x.stripeAt(row), x.saw, stripe.Taken(x.saw, x.thread)); !done {
		return api.CLocked
	}
	x.taken = append(x.taken, x.saw)
	return 0
}

// bumpOn brings its new stamp one access nearer.
func (x *Tx) bumpOn(w *mem.Mem) int {
	x.bump = vclock.Step(x.m, w, x.bump)
	if x.bump.State != vclock.Done {
		return 0
	}
	x.made = x.bump.Stamp
	if vclock.Over(x.made, x.top) {
		return api.COver
	}
	return 0
}

// alone tells whether nobody made a stamp between its own two: then what it has read is as it was.
func (x *Tx) alone() bool { return x.bump.Kind == vclock.Own && x.made == x.stamp+1 }

// spoilt is the cause for which it can't be committed, by the word of a stripe that it has read; 0: it can. That it holds the stripe itself is none.
func (x *Tx) spoilt(word int64) int {
	cause := api.CStale
	switch holder := stripe.Holder(word); {
	case holder != nobody && holder != x.thread:
		cause = api.CLocked
		fallthrough
	case stripe.Version(word) > x.stamp:
		return cause
	}
	return 0
}

// unlike is that cause, if another word than val stands at at; else 0.
func unlike(w *mem.Mem, at int, val int64, cause int) int {
	if word, _ := w.Load(at); word != val {
		return cause
	}
	return 0
}

// look is what stands at a stripe.
func (x *Tx) look(w *mem.Mem, row int) int64 {
	word, _ := w.Load(x.stripeAt(row))
	return word
}

// stripeAt is the place of a stripe.
func (x *Tx) stripeAt(row int) int { return place.Stripe(x.m, row) }

// phase is the place of its thread's Phase.
func (x *Tx) phase() int { return place.Thread(x.m, x.thread, place.Phase) }
