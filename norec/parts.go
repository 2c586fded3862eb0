package norec

import (
	"syncope/api"
	"syncope/mem"
	"syncope/place"
	"syncope/vclock"
)

// part is a row of accesses, of which there may be none; what is asked is some of these rows, one behind the other.
type part int

const (
	settling   part = iota // the sequence word, until nobody commits
	comparing              // the places that were read
	confirming             // the sequence word: whether nobody has committed since settling
	watching               // what is watched
	fetching               // what is read
	matching               // the sequence word: whether nobody has committed since the stamp
	entering               // Phase says that it commits
	claiming               // the sequence word is made odd
	writing                // what is to be written
	releasing              // the sequence word is made even, and a new one
	restoring              // the sequence word is made what it was
	leaving                // Phase says no more that it commits

	// Without any access: what comes with the one ahead of it.
	noting   // what was read counts
	dating   // what was seen of the sequence word is the stamp
	weighing // whether there may be so high a stamp
	deciding // it can't be aborted any more
	ending   // it is committed
)

// Causes by which it isn't aborted, but looks once more; api has none below 0.
const (
	outrun    = -1 // another one has committed since its stamp
	unsettled = -2 // another one has committed while it looked through
)

// committing is a Phase.
const committing = 2

// ready tells whether it may be asked: it is alive, and nothing is under way.
func (x *Tx) ready() bool { return x != nil && x.alive && len(x.parts) == 0 }

// has tells whether at is a place of its map.
func (x *Tx) has(at int) bool { return at >= 0 && at < place.Size(x.m) }

// ask has these parts come next, and nothing else.
func (x *Tx) ask(parts ...part) int {
	x.parts, x.done = parts, 0
	return x.goOn()
}

// putAhead has these parts come next, and then, from its first access on, what was under way.
func (x *Tx) putAhead(parts ...part) {
	x.parts, x.done = append(parts, x.parts...), 0
}

// ahead is what has to come once more ahead of a part that finds its stamp outrun.
func ahead(p part) part {
	if p == matching {
		return fetching
	}
	return weighing
}

// abort has it dead, but for what is to be undone.
func (x *Tx) abort(cause int) int {
	x.alive, x.cause, x.made = false, cause, 0
	return x.ask(restoring, leaving)
}

// goOn passes the parts of which no access is left, and tells how it stands then.
func (x *Tx) goOn() int {
	for len(x.parts) > 0 {
		p := x.parts[0]
		if x.left(p) {
			return api.TBusy
		}
		x.parts, x.done = x.parts[1:], 0
		if cause := x.pass(p); cause != 0 {
			return x.abort(cause)
		}
	}
	if !x.alive && !x.decided {
		return api.TDead
	}
	return api.TDone
}

// left tells whether a part has an access behind those that are done.
func (x *Tx) left(p part) bool {
	switch p {
	case settling:
		return x.done == 0 || x.now&1 == 1
	case comparing:
		return x.done < x.reads.Len()
	case watching:
		return x.done < len(x.watched)
	case writing:
		return x.done < x.writes.Len()
	case restoring:
		return x.claimed
	case leaving:
		return x.phased
	case noting, dating, weighing, deciding, ending:
		return false
	}
	return x.done == 0
}

// pass is what comes with the last access of a part, or of the one ahead of it; it tells the cause that is found then, 0: none.
func (x *Tx) pass(p part) int {
	switch p {
	case noting:
		x.value = x.found
		x.reads.Put(x.at, x.found)
	case dating:
		x.stamp = x.now
	case weighing:
		if vclock.Over(x.next(), x.top) {
			return api.COver
		}
	case deciding:
		x.decided = true
	case ending:
		x.alive = false
		if x.writes.Len() > 0 {
			x.stamp = x.made
		}
	}
	return 0
}

// access does the i-th access of a part; it tells the cause that is found by it, 0: none.
func (x *Tx) access(w *mem.Mem, p part, i int) int {
	switch p {
	case settling:
		x.now, _ = w.Load(x.seq())
	case comparing:
		return unlike(w, x.reads.At(i), api.CStale)
	case confirming:
		return unlike(w, api.Word{At: x.seq(), Val: x.now}, unsettled)
	case watching:
		return unlike(w, x.watched[i], api.CWatch)
	case fetching:
		x.found, _ = w.Load(x.at)
	case matching:
		return unlike(w, api.Word{At: x.seq(), Val: x.stamp}, outrun)
	case entering:
		w.Store(x.phase(), committing)
		x.phased = true
	case claiming:
		return x.claim(w)
	case writing:
		word := x.writes.List()[i]
		w.Store(word.At, word.Val)
	case releasing:
		w.Store(x.seq(), x.made)
		x.claimed = false
	case restoring:
		w.Store(x.seq(), x.stamp)
		x.claimed = false
	case leaving:
		w.Store(x.phase(), 0)
		x.phased = false
	}
	return 0
}

// claim keeps all others from committing, unless one has done so since its stamp.
func (x *Tx) claim(w *mem.Mem) int {
	if _, done, _ := w.Swap(x.seq(), x.stamp, x.stamp+1); !done {
		return outrun
	}
	x.claimed, x.made = true, x.next()
	return 0
}

// unlike is that cause, if another word stands where that one has to; else 0.
func unlike(w *mem.Mem, due api.Word, cause int) int {
	if word, _ := w.Load(due.At); word != due.Val {
		return cause
	}
	return 0
}

// next is the stamp of what it would write: the even number behind its own.
func (x *Tx) next() int64 { return x.stamp + 2 }

// seq is the place of the sequence word.
func (x *Tx) seq() int { return place.Seq(x.m) }

// phase is the place of its thread's Phase.
func (x *Tx) phase() int { return place.Thread(x.m, x.thread, place.Phase) }
