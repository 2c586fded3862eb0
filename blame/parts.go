package blame

import (
	"errors"
	"slices"
)

// mostParts is more than the document's bound has room for (2^31 bytes, an error taking 16 of them at the least): behind it stand only errors without end.
const mostParts = 1 << 27

// parts is err and all that it wraps, in the order in which errors.Is and errors.As go through it. They would never come back from an error that wraps itself; here each part stands once.
func parts(err error) []error {
	var list []error
	met := map[error]struct{}{}
	for left := []error{err}; len(left) > 0 && len(list) < mostParts; {
		part := left[len(left)-1]
		left = left[:len(left)-1]
		if part == nil || !fresh(met, part) {
			continue
		}
		list = append(list, part)
		for _, inner := range slices.Backward(wrapped(part)) {
			left = append(left, inner)
		}
	}
	return list
}

// fresh notes part among those met. One that can't be a key (a slice, say) panics and stays fresh: it can't be known again.
func fresh(met map[error]struct{}, part error) bool {
	isFresh := true
	calm(func() {
		_, known := met[part]
		met[part] = struct{}{}
		isFresh = !known
	})
	return isFresh
}

// wrapped is what stands right within err.
func wrapped(err error) (inner []error) {
	calm(func() {
		switch e := err.(type) {
		case interface{ Unwrap() error }:
			inner = []error{e.Unwrap()}
		case interface{ Unwrap() []error }:
			inner = e.Unwrap()
		}
	})
	return inner
}

// lone is a part by itself: it has no Unwrap, so that errors.Is and errors.As ask this part and go no further.
type lone struct{ error }

func (l lone) Is(target error) (is bool) {
	if l.error == target {
		return true
	}
	if e, ok := l.error.(interface{ Is(error) bool }); ok {
		calm(func() { is = e.Is(target) })
	}
	return is
}

func (l lone) As(target any) (is bool) {
	switch e := l.error.(type) {
	case *At:
		return errors.As(e, target)
	case interface{ As(any) bool }:
		calm(func() { is = e.As(target) })
	}
	return is
}

// places is the Ats among err's parts. A nil one tells no place.
func places(err error) []*At {
	var list []*At
	for _, part := range parts(err) {
		var at *At
		if errors.As(lone{part}, &at) && at != nil {
			list = append(list, at)
		}
	}
	return list
}

// chain is a with the Ats one right behind the other, and the error behind the last. Where that comes back to one of them, its text would never end: then nothing is behind.
func chain(a *At) ([]*At, error) {
	var line []*At
	met := map[*At]struct{}{}
	var behind error
	for a != nil {
		if _, ok := met[a]; ok {
			return line, nil
		}
		met[a] = struct{}{}
		line = append(line, a)
		behind = a.Err
		a, _ = behind.(*At)
	}
	for _, part := range parts(behind) {
		at, _ := part.(*At)
		if _, ok := met[at]; ok {
			return line, nil
		}
	}
	return line, behind
}

// calm lets a panic of ask be none: errors from outside bring methods of their own.
func calm(ask func()) {
	defer func() { recover() }()
	ask()
}
