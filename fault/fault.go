// Package fault is layer 1: errors that tell where they came through.
package fault

import (
	"errors"
	"strconv"
	"strings"

	"cohort/api"
)

// wrapped is held by its address, so that two errors can be held against each other whatever is in them.
type wrapped struct {
	api.Step
	inner error
}

func (w *wrapped) Error() string { return Text(w) }

func (w *wrapped) Unwrap() error { return w.inner }

// Of is an error of a number; nil of OK.
func Of(e api.Errno) error {
	if e == api.OK {
		return nil
	}
	return e
}

// Wrap has an error come through somewhere; nil stays nil.
func Wrap(err error, where string, at int) error {
	if err == nil {
		return nil
	}
	return &wrapped{Step: api.Step{Where: where, At: at}, inner: err}
}

// Code is an error's number; ErrOther of one that has none.
func Code(err error) api.Errno {
	if err == nil {
		return api.OK
	}
	var e api.Errno
	if !holds(func() bool { return errors.As(err, &e) }) {
		return api.ErrOther
	}
	return e
}

// Is tells whether a number is in an error; OK is where there is none.
func Is(err error, e api.Errno) bool {
	if e == api.OK {
		return err == nil
	}
	return holds(func() bool { return errors.Is(err, e) })
}

// Trail is where an error came through, the outermost step first.
func Trail(err error) []api.Step {
	trail, _ := unfold(err)
	return trail
}

// Text tells an error, and where it came through.
func Text(err error) string {
	trail, core := unfold(err)
	var b strings.Builder
	for _, s := range trail {
		b.WriteString(s.Where)
		b.WriteString(" " + strconv.Itoa(s.At) + ": ")
	}
	b.WriteString(told(core))
	return b.String()
}

// unfold takes an error apart: its steps, and the first error in it that is not wrapped.
func unfold(err error) ([]api.Step, error) {
	var trail []api.Step
	for {
		w, ok := outermost(err)
		if !ok {
			return trail, err
		}
		trail = append(trail, w.Step)
		err = w.inner
	}
}

// outermost is err itself as a wrapped one. What errors.As finds deeper, behind somebody else's error, does not count: that error has no Step, and a text of its own.
func outermost(err error) (*wrapped, bool) {
	var w *wrapped
	if !holds(func() bool { return errors.As(err, &w) && error(w) == err }) {
		return nil, false
	}
	return w, true
}

// told is an error's own text. Somebody else's Error may panic (of a nil pointer, say): it tells nothing then.
func told(err error) (text string) {
	if err == nil {
		return ""
	}
	holds(func() bool {
		text = err.Error()
		return true
	})
	return text
}

// holds asks what calls methods of somebody else's errors (As, Is, Unwrap, Error), which may panic: what panics does not hold.
func holds(ask func() bool) (yes bool) {
	defer func() {
		if recover() != nil {
			yes = false
		}
	}()
	return ask()
}
