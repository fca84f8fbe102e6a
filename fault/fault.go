// Package fault is layer 1: see shared/doc/01-fault.md.
package fault

import (
	"errors"
	"noria/api"
	"strconv"
	"strings"
)

// unnumbered stands for the number of an error that has none.
const unnumbered api.Errno = -1

// Fault is an error, with what was done, and at which index.
type Fault struct {
	Op  string
	Seq int64
	Err error
}

// Error is a fault as a text.
func (f *Fault) Error() string {
	if f == nil {
		return "nil"
	}
	if !ends(f) {
		return f.place()
	}
	var b strings.Builder
	// A loop, not a call of the inner fault's Error: faults may stand too deep for the stack.
	for {
		b.WriteString(f.place())
		if f.Err == nil {
			return b.String()
		}
		b.WriteString(": ")
		in := outermost(f.Err)
		if in == nil {
			b.WriteString(text(f.Err))
			return b.String()
		}
		f = in
	}
}

// Unwrap is the error within.
func (f *Fault) Unwrap() error {
	if f == nil {
		return nil
	}
	return f.Err
}

// Wrap is an error with what was done, and where; nil: there is none.
func Wrap(op string, seq int64, e error) error {
	if e == nil {
		return nil
	}
	return &Fault{Op: op, Seq: seq, Err: e}
}

// Code is an error's number; 0: there is none, -1: it has none.
func Code(e error) api.Errno {
	if none(e) {
		return 0
	}
	var n api.Errno
	if !ends(e) || !find(e, &n) {
		return unnumbered
	}
	return n
}

// At is where the innermost fault was; false: there is none.
func At(e error) (string, int64, bool) {
	f, _ := innermost(e)
	if f == nil {
		return "", 0, false
	}
	return f.Op, f.Seq, true
}

// Deep is how many faults stand around an error.
func Deep(e error) int {
	_, n := innermost(e)
	return n
}

// Is says whether an error is one of some numbers.
func Is(e error, l ...api.Errno) bool {
	if !ends(e) {
		return false
	}
	for _, n := range l {
		if matches(e, n) {
			return true
		}
	}
	return false
}

// Grave says whether an actor stops by an error: it is no answer that may be another one later.
func Grave(e error) bool {
	return Code(e) != 0 && !Is(e, api.ErrFull, api.ErrIdle, api.ErrGating, api.ErrTimeout)
}

// place is a fault's own part of its text.
func (f *Fault) place() string {
	return f.Op + " " + strconv.FormatInt(f.Seq, 10)
}

// none says whether there is no error: a fault that is nil is none either.
func none(e error) bool {
	return e == nil || e == error((*Fault)(nil))
}

// innermost is the fault with no fault within, nil if there is none, and how many faults there are.
func innermost(e error) (*Fault, int) {
	if !ends(e) {
		return nil, 0
	}
	var last, f *Fault
	n := 0
	for find(e, &f) && f != nil {
		last, e = f, f.Err
		n++
	}
	return last, n
}

// outermost is an error that is itself a fault; nil: it is none, though there may be one within it.
func outermost(e error) *Fault {
	var f *Fault
	if !find(e, &f) || error(f) != e {
		return nil
	}
	return f
}

// ends says whether the errors within an error come to an end. A fault may be put within itself by its
// field, and errors.Is and errors.As would go round in it for ever. The mark moves on at each power of
// two, so that it gets into any round, and the round fits behind it.
func ends(e error) bool {
	mark := e
	move := 1
	for n := 1; e != nil; n++ {
		e = within(e)
		if e != nil && same(e, mark) {
			return false
		}
		if n == move {
			mark, move = e, 2*move
		}
	}
	return true
}

// within is the error within another one.
func within(e error) (in error) {
	calm(func() { in = errors.Unwrap(e) })
	return in
}

// same says whether two errors are one.
func same(a, b error) (ok bool) {
	calm(func() { ok = a == b })
	return ok
}

// find looks for the first error of a kind, from the outermost on.
func find[T error](e error, to *T) (ok bool) {
	calm(func() { ok = errors.As(e, to) })
	return ok
}

// matches says whether an error is a number.
func matches(e error, n api.Errno) (ok bool) {
	calm(func() { ok = errors.Is(e, n) })
	return ok
}

// text is what an error says.
func text(e error) string {
	s := "other"
	calm(func() { s = e.Error() })
	return s
}

// calm asks an error that may be somebody else's: if that panics, there is no answer.
func calm(ask func()) {
	defer func() { _ = recover() }()
	ask()
}
