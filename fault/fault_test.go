package fault_test

import (
	"errors"
	"fmt"
	"math"
	"slices"
	"strings"
	"testing"

	"cohort/api"
	"cohort/fault"
)

// Every number that package api names, but OK.
func numbers() []api.Errno {
	return []api.Errno{
		api.ErrArg, api.ErrTooMany, api.ErrOther, api.ErrEnd, api.ErrLeft, api.ErrSign,
		api.ErrFew, api.ErrWho, api.ErrSeal, api.ErrRoot, api.ErrShape, api.ErrFull,
		api.ErrHeld, api.ErrRange, api.ErrTxn, api.ErrSay, api.ErrOrder, api.ErrCert,
		api.ErrLate, api.ErrOwner, api.ErrMsg, api.ErrView,
	}
}

// stranger is somebody else's error, with an error in it.
type stranger struct{ inner error }

func (s stranger) Error() string { return "stranger" }

func (s stranger) Unwrap() error { return s.inner }

// changeling is somebody else's error that errors.As and errors.Is take for ErrHeld.
type changeling struct{}

func (changeling) Error() string { return "changeling" }

func (changeling) As(target any) bool {
	e, ok := target.(*api.Errno)
	if ok {
		*e = api.ErrHeld
	}
	return ok
}

func (changeling) Is(target error) bool { return target == api.ErrHeld }

// braggart says yes to whatever errors.As asks for, and hands out nothing.
type braggart struct{}

func (braggart) Error() string { return "braggart" }

func (braggart) As(any) bool { return true }

// bomb panics whatever it is asked.
type bomb struct{}

func (bomb) Error() string { panic("error") }

func (bomb) As(any) bool { panic("as") }

func (bomb) Is(error) bool { panic("is") }

func (bomb) Unwrap() error { panic("unwrap") }

// absent is an error behind a pointer that may be nil.
type absent struct{ text string }

func (a *absent) Error() string { return a.text }

// several cannot be held against another of its type.
type several []string

func (s several) Error() string { return strings.Join(s, "+") }

// tell holds all that is to be told of an error against what it should be.
func tell(t *testing.T, err error, code api.Errno, text string, trail ...api.Step) {
	t.Helper()
	if got := fault.Code(err); got != code {
		t.Errorf("Code is %d, not %d", got, code)
	}
	if got := fault.Text(err); got != text {
		t.Errorf("Text is %q, not %q", got, text)
	}
	if got := fault.Trail(err); !slices.Equal(got, trail) {
		t.Errorf("Trail is %v, not %v", got, trail)
	}
}

// P1.1 (A1): a number is an error itself.
func TestOf(t *testing.T) {
	for _, e := range append(numbers(), -1, 3, 1000, math.MaxInt, math.MinInt) {
		err := fault.Of(e)
		if err != error(e) {
			t.Errorf("Of(%d) is %v", e, err)
		}
		tell(t, err, e, fmt.Sprintf("cohort: error %d", int(e)))
		if !fault.Is(err, e) {
			t.Errorf("Of(%d) is not %d", e, e)
		}
	}
}

// P1.1 (A1 to A3): of OK, and of no error, there is nothing.
func TestNothing(t *testing.T) {
	if err := fault.Of(api.OK); err != nil {
		t.Errorf("Of(OK) is %v", err)
	}
	if err := fault.Wrap(nil, "text", 7); err != nil {
		t.Errorf("Wrap(nil) is %v", err)
	}
	if err := fault.Wrap(fault.Wrap(fault.Of(api.OK), "text", 7), "list", 0); err != nil {
		t.Errorf("nothing, wrapped twice, is %v", err)
	}
	tell(t, nil, api.OK, "")
	for _, e := range numbers() {
		if fault.Is(nil, e) {
			t.Errorf("nil is %d", e)
		}
		if fault.Is(fault.Of(e), api.OK) || fault.Is(fault.Wrap(fault.Of(e), "x", 1), api.OK) {
			t.Errorf("%d is OK", e)
		}
	}
	if !fault.Is(nil, api.OK) {
		t.Error("nil is not OK")
	}
}

// P1.1: an Errno 0 in an error is a number like the others; only nil Is OK.
func TestZeroThatIsAnError(t *testing.T) {
	tell(t, api.OK, api.OK, "cohort: error 0")
	err := fault.Wrap(api.OK, "x", 1)
	tell(t, err, api.OK, "x 1: cohort: error 0", api.Step{Where: "x", At: 1})
	if fault.Is(api.OK, api.OK) || fault.Is(err, api.OK) {
		t.Error("an error Is OK")
	}
}

// P1.1 (A3): the chapter's example.
func TestExample(t *testing.T) {
	err := fault.Wrap(fault.Of(api.ErrEnd), "text", 7)
	tell(t, err, api.ErrEnd, "text 7: cohort: error 21", api.Step{Where: "text", At: 7})
	if err.Error() != "text 7: cohort: error 21" {
		t.Errorf("Error is %q", err.Error())
	}
}

// P1.1 (A1): a wrapped error has the error in it, for errors.Unwrap, errors.Is and errors.As too.
func TestUnwrap(t *testing.T) {
	inner := errors.New("inner")
	once := fault.Wrap(inner, "a", 1)
	twice := fault.Wrap(once, "b", 2)
	if errors.Unwrap(twice) != once || errors.Unwrap(once) != inner {
		t.Error("Unwrap is not the error in it")
	}
	if !errors.Is(twice, inner) || !errors.Is(twice, once) || errors.Is(once, twice) {
		t.Error("errors.Is does not find what is in it")
	}
	var e api.Errno
	if !errors.As(fault.Wrap(fault.Of(api.ErrSeal), "c", 3), &e) || e != api.ErrSeal {
		t.Errorf("errors.As finds %d", e)
	}
}

// P1.1 (A2): each number is itself alone, wrapped or not.
func TestIs(t *testing.T) {
	for _, a := range numbers() {
		for _, b := range numbers() {
			bare := fault.Of(a)
			deep := fault.Wrap(fault.Wrap(bare, "x", 1), "y", 2)
			if fault.Is(bare, b) != (a == b) || fault.Is(deep, b) != (a == b) {
				t.Errorf("is %d %d?", a, b)
			}
		}
	}
}

// P1.1 (A3): the edges of a Step's two parts.
func TestTextOfEdges(t *testing.T) {
	for _, c := range []struct {
		where string
		at    int
		text  string
	}{
		{"", 0, " 0: cohort: error 53"},
		{"x", -1, "x -1: cohort: error 53"},
		{"a 1: b", 2, "a 1: b 2: cohort: error 53"},
		{"\x00\xff%d", 10, "\x00\xff%d 10: cohort: error 53"},
		{"most", math.MaxInt64, "most 9223372036854775807: cohort: error 53"},
		{"least", math.MinInt64, "least -9223372036854775808: cohort: error 53"},
	} {
		err := fault.Wrap(fault.Of(api.ErrSeal), c.where, c.at)
		tell(t, err, api.ErrSeal, c.text, api.Step{Where: c.where, At: c.at})
	}
}

// P1.1 (A2, A3): what is no Errno is ErrOther, and is told by its own Error.
func TestOther(t *testing.T) {
	other := errors.New("other")
	tell(t, other, api.ErrOther, "other")
	tell(t, fault.Wrap(other, "x", 1), api.ErrOther, "x 1: other", api.Step{Where: "x", At: 1})
	tell(t, several{"a", "b"}, api.ErrOther, "a+b")
	tell(t, fault.Wrap(several{"a", "b"}, "x", 1), api.ErrOther, "x 1: a+b", api.Step{Where: "x", At: 1})
	if fault.Is(other, api.ErrOther) || fault.Is(fault.Wrap(other, "x", 1), api.ErrOther) {
		t.Error("errors.Is does not find ErrOther in it: Is must not")
	}
	if !fault.Is(fault.Of(api.ErrOther), api.ErrOther) {
		t.Error("ErrOther is not itself")
	}
}

// P1.1 (A2): errors.As and errors.Is look into somebody else's errors, and ask their own As and Is.
func TestCodeInStrangers(t *testing.T) {
	low := fault.Wrap(fault.Of(api.ErrLate), "low", 1)
	for _, err := range []error{
		stranger{low},
		fmt.Errorf("about: %w", low),
		errors.Join(errors.New("first"), low, fault.Of(api.ErrFull)),
		fault.Wrap(stranger{stranger{low}}, "top", 2),
	} {
		if fault.Code(err) != api.ErrLate || !fault.Is(err, api.ErrLate) || fault.Is(err, api.ErrEnd) {
			t.Errorf("%v: %d", err, fault.Code(err))
		}
	}
	top := fault.Wrap(changeling{}, "top", 2)
	tell(t, top, api.ErrHeld, "top 2: changeling", api.Step{Where: "top", At: 2})
	if !fault.Is(top, api.ErrHeld) || fault.Is(top, api.ErrLate) {
		t.Error("errors.Is asks the error's own Is: so must Is")
	}
}

// P1.1 (A3): somebody else's error is not wrapped, whatever is in it: the trail ends there, and its own Error tells it.
func TestTrailEndsAtStrangers(t *testing.T) {
	low := fault.Wrap(fault.Of(api.ErrLate), "low", 1)
	top := api.Step{Where: "top", At: 2}
	tell(t, stranger{low}, api.ErrLate, "stranger")
	tell(t, fault.Wrap(stranger{low}, "top", 2), api.ErrLate, "top 2: stranger", top)
	named := fmt.Errorf("about: %w", low)
	tell(t, named, api.ErrLate, "about: low 1: cohort: error 122")
	tell(t, fault.Wrap(named, "top", 2), api.ErrLate, "top 2: about: low 1: cohort: error 122", top)
}

// P1: somebody else's error that lies or panics does not make a call panic.
func TestWrongErrors(t *testing.T) {
	x := api.Step{Where: "x", At: 1}
	tell(t, bomb{}, api.ErrOther, "")
	tell(t, fault.Wrap(bomb{}, "x", 1), api.ErrOther, "x 1: ", x)
	tell(t, (*absent)(nil), api.ErrOther, "")
	tell(t, fault.Wrap((*absent)(nil), "x", 1), api.ErrOther, "x 1: ", x)
	tell(t, fault.Wrap(stranger{bomb{}}, "x", 1), api.ErrOther, "x 1: stranger", x)
	tell(t, fault.Wrap(stranger{nil}, "x", 1), api.ErrOther, "x 1: stranger", x)
	if err := fault.Wrap(bomb{}, "x", 1); err.Error() != "x 1: " {
		t.Errorf("Error is %q", err.Error())
	}
	for _, err := range []error{bomb{}, fault.Wrap(bomb{}, "x", 1), (*absent)(nil)} {
		if fault.Is(err, api.ErrEnd) || fault.Is(err, api.OK) {
			t.Errorf("%T is something", err)
		}
	}
	brag := fault.Wrap(braggart{}, "x", 1)
	if got := fault.Trail(brag); !slices.Equal(got, []api.Step{x}) {
		t.Errorf("Trail is %v", got)
	}
	if got := fault.Text(brag); got != "x 1: braggart" {
		t.Errorf("Text is %q", got)
	}
}

// P1.2: each wrapping keeps the number, and puts one Step ahead of the Trail.
func TestEachWrapping(t *testing.T) {
	starts := []error{errors.New("other"), stranger{api.ErrFew}, changeling{}, bomb{}, api.OK}
	for _, e := range numbers() {
		starts = append(starts, fault.Of(e))
	}
	for _, start := range starts {
		err := start
		for i := range 20 {
			where := string(rune('a' + i%3))
			up := fault.Wrap(err, where, i)
			want := append([]api.Step{{Where: where, At: i}}, fault.Trail(err)...)
			tell(t, up, fault.Code(start), where+" "+fmt.Sprint(i)+": "+fault.Text(err), want...)
			for _, e := range numbers() {
				if fault.Is(up, e) != fault.Is(start, e) {
					t.Errorf("wrapped, %T is no longer what it was", start)
				}
			}
			err = up
		}
	}
}

// P1.2: one error that several places wrap keeps a trail of its own in each.
func TestSeveralPlaces(t *testing.T) {
	base := fault.Wrap(fault.Of(api.ErrRoot), "base", 0)
	left := fault.Wrap(base, "left", 1)
	right := fault.Wrap(base, "right", 2)
	step := api.Step{Where: "base", At: 0}
	tell(t, left, api.ErrRoot, "left 1: base 0: cohort: error 61", api.Step{Where: "left", At: 1}, step)
	tell(t, right, api.ErrRoot, "right 2: base 0: cohort: error 61", api.Step{Where: "right", At: 2}, step)
	tell(t, base, api.ErrRoot, "base 0: cohort: error 61", step)
}

// P1.2: as deep as errors may be nested, by one place and by several.
func TestDeep(t *testing.T) {
	const depth = 1<<16 - 1
	for _, places := range []int{1, 5} {
		err := fault.Of(api.ErrView)
		var want []api.Step
		for i := range depth {
			s := api.Step{Where: strings.Repeat("p", 1+i%places), At: i}
			err = fault.Wrap(err, s.Where, s.At)
			want = append(want, s)
		}
		slices.Reverse(want)
		var b strings.Builder
		for _, s := range want {
			fmt.Fprintf(&b, "%s %d: ", s.Where, s.At)
		}
		tell(t, err, api.ErrView, b.String()+"cohort: error 161", want...)
		if err.Error() != fault.Text(err) || !fault.Is(err, api.ErrView) || fault.Is(err, api.ErrMsg) {
			t.Error("deep")
		}
	}
}

// P3: a Trail is new memory each time, its spare room too.
func TestTrailIsNew(t *testing.T) {
	err := fault.Wrap(fault.Wrap(fault.Wrap(fault.Of(api.ErrEnd), "a", 1), "b", 2), "c", 3)
	first, second := fault.Trail(err), fault.Trail(err)
	want := slices.Clone(first)
	spare := second[:cap(second)]
	for i := range spare {
		spare[i] = api.Step{Where: "changed", At: 99}
	}
	if !slices.Equal(first, want) || !slices.Equal(fault.Trail(err), want) {
		t.Error("a change of one Trail is seen in another")
	}
	tell(t, err, api.ErrEnd, "c 3: b 2: a 1: cohort: error 21", want...)
}
