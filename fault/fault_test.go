package fault_test

import (
	"errors"
	"fmt"
	"noria/api"
	"noria/fault"
	"slices"
	"strings"
	"testing"
)

var numbers = []api.Errno{
	api.ErrArg, api.ErrNil, api.ErrNone, api.ErrThere, api.ErrRange, api.ErrForm, api.ErrSize, api.ErrMany, api.ErrFull,
	api.ErrIdle, api.ErrGating, api.ErrAlerted, api.ErrTimeout, api.ErrExhausted, api.ErrCycle, api.ErrHalted, api.ErrBusy,
	9, 19, 1000, -1, -5, 1<<62 - 1, -1 << 62,
}

// around is a number within n faults, the innermost of which is "op0" at 0.
func around(n int, e error) error {
	for i := range n {
		e = fault.Wrap("op"+string(rune('0'+i)), int64(i), e)
	}
	return e
}

// P1.1: Wrap is a fault around an error; nil of nil.
func TestWrap(t *testing.T) {
	for _, seq := range []int64{0, -1, 3, 1<<63 - 1, -1 << 63} {
		e := fault.Wrap("claim", seq, api.ErrFull)
		f, ok := e.(*fault.Fault)
		if !ok || f.Op != "claim" || f.Seq != seq || f.Err != error(api.ErrFull) {
			t.Fatal(seq, e)
		}
	}
	if e := fault.Wrap("claim", 3, nil); e != nil {
		t.Fatal(e)
	}
	in := fault.Wrap("a", 1, api.ErrArg)
	f, ok := fault.Wrap("b", 2, in).(*fault.Fault)
	if !ok || f.Err != in {
		t.Fatal("a fault within a fault is not the one handed in")
	}
	if fault.Wrap("a", 1, api.ErrArg) == in {
		t.Fatal("two calls answer one fault")
	}
}

// P1.1: Unwrap is the error within.
func TestUnwrap(t *testing.T) {
	in := fault.Wrap("a", 1, api.ErrArg)
	e := fault.Wrap("b", 2, in)
	if errors.Unwrap(e) != in || errors.Unwrap(in) != error(api.ErrArg) {
		t.Fatal(errors.Unwrap(e), errors.Unwrap(in))
	}
	if u := (*fault.Fault)(nil).Unwrap(); u != nil {
		t.Fatal(u)
	}
	if u := (&fault.Fault{Op: "a"}).Unwrap(); u != nil {
		t.Fatal(u)
	}
	for _, n := range numbers {
		if !errors.Is(around(3, n), n) || errors.Is(around(3, n), n+1) {
			t.Fatal(n)
		}
	}
}

// P1.1: Error is Op, Seq, and the error within.
func TestText(t *testing.T) {
	for _, c := range []struct {
		e    error
		want string
	}{
		{fault.Wrap("claim", 3, api.ErrFull), "claim 3: full"},
		{fault.Wrap("park", 2, fault.Wrap("claim", 3, api.ErrFull)), "park 2: claim 3: full"},
		{fault.Wrap("", -1, api.ErrBusy), " -1: busy"},
		{fault.Wrap("a: b", 0, api.Errno(9)), "a: b 0: other"},
		{fault.Wrap("a", 1<<63-1, api.Errno(99)), "a 9223372036854775807: other"},
		{fault.Wrap("a", -1<<63, api.Errno(-7)), "a -9223372036854775808: other"},
		{fault.Wrap("\xff\n", 10, api.ErrNone), "\xff\n 10: none"},
		{&fault.Fault{Op: "alone", Seq: 7}, "alone 7"},
		{fault.Wrap("out", 1, &fault.Fault{Op: "alone", Seq: 7}), "out 1: alone 7"},
		{&fault.Fault{}, " 0"},
		{(*fault.Fault)(nil), "nil"},
	} {
		if got := c.e.Error(); got != c.want {
			t.Errorf("%q, not %q", got, c.want)
		}
	}
}

// P1.2: Code is the number; 0 of nil.
func TestCode(t *testing.T) {
	for _, n := range numbers {
		for deep := range 4 {
			if got := fault.Code(around(deep, n)); got != n {
				t.Fatal(n, deep, got)
			}
		}
	}
	if got := fault.Code(nil); got != 0 {
		t.Fatal(got)
	}
}

// P1.2: At is the place of the innermost fault.
func TestAt(t *testing.T) {
	for deep := 1; deep < 5; deep++ {
		op, seq, ok := fault.At(around(deep, api.ErrGating))
		if op != "op0" || seq != 0 || !ok {
			t.Fatal(deep, op, seq, ok)
		}
	}
	op, seq, ok := fault.At(fault.Wrap("out", 1, fault.Wrap("in", -9, api.ErrArg)))
	if op != "in" || seq != -9 || !ok {
		t.Fatal(op, seq, ok)
	}
	for _, e := range []error{nil, api.ErrArg, api.Errno(-1)} {
		if op, seq, ok := fault.At(e); op != "" || seq != 0 || ok {
			t.Fatal(e, op, seq, ok)
		}
	}
}

// P1.2: Deep is how many faults there are.
func TestDeep(t *testing.T) {
	for deep := range 10 {
		if got := fault.Deep(around(deep, api.ErrCycle)); got != deep {
			t.Fatal(deep, got)
		}
	}
	if got := fault.Deep(nil); got != 0 {
		t.Fatal(got)
	}
}

// P1.2: Is asks for any of the numbers.
func TestIs(t *testing.T) {
	for deep := range 3 {
		for _, n := range numbers {
			e := around(deep, n)
			if !fault.Is(e, n) || !fault.Is(e, n+1, n) || !fault.Is(e, n, n+1) || !fault.Is(e, numbers...) {
				t.Fatal("is not", n, deep)
			}
			if fault.Is(e) || fault.Is(e, n+1) || fault.Is(e, n-1, n+1, 0) || fault.Is(e, []api.Errno{}...) {
				t.Fatal("is", n, deep)
			}
		}
	}
	if fault.Is(nil) || fault.Is(nil, 0) || fault.Is(nil, numbers...) {
		t.Fatal("nil is a number")
	}
}

// R3: the numbers that are handed in stay, behind their end too.
func TestIsChangesNothing(t *testing.T) {
	l := append([]api.Errno{}, numbers...)
	fault.Is(api.ErrBusy, l[:3]...)
	if !slices.Equal(l, numbers) {
		t.Fatal(l)
	}
}

// P1.2: Grave is any error but the four that may be another answer later.
func TestGrave(t *testing.T) {
	light := []api.Errno{api.ErrFull, api.ErrIdle, api.ErrGating, api.ErrTimeout}
	for deep := range 3 {
		for _, n := range numbers {
			if got := fault.Grave(around(deep, n)); got == slices.Contains(light, n) {
				t.Fatal(n, deep, got)
			}
		}
	}
	if fault.Grave(nil) {
		t.Fatal("nil is grave")
	}
}

// ask calls all that takes an error.
func ask(e error) string {
	fault.Code(e)
	fault.At(e)
	fault.Deep(e)
	fault.Is(e, numbers...)
	fault.Grave(e)
	return fault.Wrap("ask", 1, e).Error()
}

// R1: nil objects are answered by zeros.
func TestNilFault(t *testing.T) {
	var f *fault.Fault
	op, seq, ok := fault.At(f)
	if fault.Code(f) != 0 || op != "" || seq != 0 || ok || fault.Deep(f) != 0 || fault.Is(f, 0, 1) || fault.Grave(f) {
		t.Fatal("a nil fault has something")
	}
	if s := ask(f); s != "ask 1: nil" {
		t.Fatal(s)
	}
	ask(fault.Wrap("a", 1, f))
}

// R1: a fault without an error within, or with 0, which is none, is no reason to panic.
func TestNoNumber(t *testing.T) {
	e := &fault.Fault{Op: "alone", Seq: 7}
	op, seq, ok := fault.At(e)
	if fault.Code(e) != -1 || op != "alone" || seq != 7 || !ok || fault.Deep(e) != 1 || fault.Is(e, -1, 0) || !fault.Grave(e) {
		t.Fatal(op, seq, ok)
	}
	if fault.Code(api.Errno(0)) != 0 || fault.Grave(api.Errno(0)) {
		t.Fatal("0 is an error")
	}
	ask(e)
	ask(fault.Wrap("a", 1, api.Errno(0)))
}

// R1: faults that go round end every call.
func TestRound(t *testing.T) {
	for tail := range 6 {
		for round := 1; round < 10; round++ {
			first := &fault.Fault{Op: "first"}
			e := error(first)
			for range round - 1 {
				e = fault.Wrap("round", 1, e)
			}
			first.Err = e
			ask(around(tail, e))
		}
	}
}

type loop struct{}

func (l loop) Error() string { return "loop" }
func (l loop) Unwrap() error { return l }

type many []error

func (m many) Error() string { return "many" }
func (m many) Unwrap() error { return m[0] }

type wild struct{ error }

func (w wild) Is(error) bool { panic("is") }
func (w wild) As(any) bool   { panic("as") }
func (w wild) Unwrap() error { panic("unwrap") }

// R1: errors from outside may be of any kind.
func TestForeign(t *testing.T) {
	var nothing *api.Errno
	for _, e := range []error{loop{}, many{}, many{many{many{api.ErrArg}}}, many{loop{}}, wild{}, nothing} {
		for deep := range 4 {
			ask(around(deep, e))
		}
	}
	if e := fmt.Errorf("so: %w", fault.Wrap("in", 2, api.ErrFull)); fault.Code(e) != api.ErrFull || !fault.Is(e, api.ErrFull) || fault.Wrap("out", 1, e).Error() != "out 1: so: in 2: full" {
		t.Fatal(e)
	}
	e := fault.Wrap("out", 1, many{fault.Wrap("in", 2, api.ErrIdle)})
	if op, seq, ok := fault.At(e); fault.Code(e) != api.ErrIdle || fault.Deep(e) != 2 || op != "in" || seq != 2 || !ok || fault.Grave(e) {
		t.Fatal(op, seq, ok)
	}
	if s := e.Error(); s != "out 1: many" {
		t.Fatal(s)
	}
}

// Faults that stand deep are told in one go.
func TestDeepText(t *testing.T) {
	const n = 300000
	e := error(api.ErrFull)
	for i := range n {
		e = fault.Wrap("w", int64(i%10), e)
	}
	s := e.Error()
	if len(s) != 5*n+4 || !strings.HasPrefix(s, "w 9: w 8: ") || !strings.HasSuffix(s, "w 1: w 0: full") {
		t.Fatal(len(s))
	}
	if fault.Deep(e) != n || fault.Code(e) != api.ErrFull || !fault.Is(e, api.ErrFull) || fault.Grave(e) {
		t.Fatal("deep")
	}
}
