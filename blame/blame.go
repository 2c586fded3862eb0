// Package blame is errors that know where: see DOC.md, chapter 1.
package blame

import (
	"errors"
	"strconv"
	"strings"

	"syncope/api"
)

var (
	errArg   = errors.New("code 1")
	errRange = errors.New("code 2")
	errText  = errors.New("code 3")
	errLarge = errors.New("code 4")
	errBlock = errors.New("code 5")
	errLock  = errors.New("code 6")
	errMode  = errors.New("code 7")
	errOrder = errors.New("code 8")
	errCond  = errors.New("code 9")
	errState = errors.New("code 10")
)

// At is an error at a place of a thread.
type At struct {
	Thread, Place int
	Err           error
}

// New is the one error of a code; nil, if it is none of api's.
func New(code int) error {
	switch code {
	case api.ErrArg:
		return errArg
	case api.ErrRange:
		return errRange
	case api.ErrText:
		return errText
	case api.ErrLarge:
		return errLarge
	case api.ErrBlock:
		return errBlock
	case api.ErrLock:
		return errLock
	case api.ErrMode:
		return errMode
	case api.ErrOrder:
		return errOrder
	case api.ErrCond:
		return errCond
	case api.ErrState:
		return errState
	}
	return nil
}

// Error goes along the Ats instead of asking each the next one's, so that neither their number nor a ring of them matters.
func (a *At) Error() string {
	line, behind := chain(a)
	var text strings.Builder
	for _, at := range line {
		text.WriteString("thread ")
		text.WriteString(strconv.Itoa(at.Thread))
		text.WriteString(", place ")
		text.WriteString(strconv.Itoa(at.Place))
		text.WriteString(": ")
	}
	text.WriteString(Text(behind))
	return text.String()
}

// Unwrap is what a stands around.
func (a *At) Unwrap() error {
	if a == nil {
		return nil
	}
	return a.Err
}

// Put is err with its place; nil of nil.
func Put(err error, thread, place int) error {
	if err == nil {
		return nil
	}
	return &At{Thread: thread, Place: place, Err: err}
}

// Code is the code that err is, or wraps (the least, if there are several); 0 without one.
func Code(err error) int {
	inside := parts(err)
	for code := api.ErrArg; code <= api.ErrState; code++ {
		for _, part := range inside {
			if errors.Is(lone{part}, New(code)) {
				return code
			}
		}
	}
	return 0
}

// Where is the place that the outermost At tells.
func Where(err error) (int, int, bool) {
	list := places(err)
	if len(list) == 0 {
		return 0, 0, false
	}
	return list[0].Thread, list[0].Place, true
}

// Trail is the places of all Ats, the outermost first.
func Trail(err error) []int {
	var trail []int
	for _, at := range places(err) {
		trail = append(trail, at.Place)
	}
	return trail
}

// Text is what err tells; "" of nil.
func Text(err error) (text string) {
	if err == nil {
		return ""
	}
	calm(func() { text = err.Error() })
	return text
}
