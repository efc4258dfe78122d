package fault

import (
	"errors"
	"fmt"
	"math"
	"runtime/debug"
	"strings"
	"testing"

	"redpen/api"
)

// numbers are all of the list of numbers but OK, written out.
var numbers = []api.Errno{1, 2, 3, 4, 5, 6, 7, 8, 9, 10, 11, 12, 13, 14, 15, 16}

// strange are numbers that are none of the list.
var strange = []api.Errno{17, 18, 99, -1, -2, math.MaxInt64, math.MinInt64}

// plain is an error that has no number and wraps nothing.
var plain = errors.New("plain")

// told is what all calls answer of an error.
type told struct {
	code  api.Errno
	list  string
	line  int
	ok    bool
	inner error
}

// alike: are they one error? Those that can't be compared, rows, are held against one another by their places.
func alike(a, b error) bool {
	x, ok := a.(rowOf)
	y, too := b.(rowOf)
	if ok && too {
		return len(x) == len(y) && &x[0] == &y[0]
	}
	return a == b
}

// hold asks everything of an error, twice.
func hold(t *testing.T, name string, err error, want told) {
	t.Helper()
	for range 2 {
		if got := Code(err); got != want.code {
			t.Errorf("P5.1: Code of %s: %d, not %d", name, got, want.code)
		}
		list, line, ok := Where(err)
		if list != want.list || line != want.line || ok != want.ok {
			t.Errorf("P5.2: Where of %s: %q, %d, %v; not %q, %d, %v", name, list, line, ok, want.list, want.line, want.ok)
		}
		if got := Inner(err); !alike(got, want.inner) {
			t.Errorf("P5.2: Inner of %s: %#v, not %#v", name, got, want.inner)
		}
	}
}

// holdIs asks Is of an error with every number; has are those that it is.
func holdIs(t *testing.T, name string, err error, has ...api.Errno) {
	t.Helper()
	for _, l := range [][]api.Errno{{api.OK}, numbers, strange} {
		for _, n := range l {
			want := false
			for _, h := range has {
				want = want || h == n
			}
			if got := Is(err, n); got != want {
				t.Errorf("P5.1: Is of %s and %d: %v", name, n, got)
			}
		}
	}
}

func TestExample(t *testing.T) {
	err := New("words", 3, api.ErrLong)
	hold(t, "the example", err, told{api.ErrLong, "words", 3, true, api.ErrLong})
	holdIs(t, "the example", err, api.ErrLong)
}

func TestNumbersAreThoseOfTheDocument(t *testing.T) {
	for i, n := range []api.Errno{api.OK, api.ErrNil, api.ErrRange, api.ErrLong, api.ErrMany, api.ErrWord, api.ErrTwice, api.ErrForm, api.ErrOrder, api.ErrOption, api.ErrName, api.ErrOther, api.ErrHead, api.ErrCount, api.ErrText, api.ErrEnd, api.ErrNone} {
		if n != api.Errno(i) {
			t.Errorf("number %d is %d", i, n)
		}
	}
}

func TestNew(t *testing.T) {
	for _, list := range []string{"words", "", "fixes", "a:b\n", "\xff\x00", strings.Repeat("x", 1<<16)} {
		for _, line := range []int{3, 1, 0, -1, math.MaxInt64, math.MinInt64} {
			if err := New(list, line, nil); err != nil {
				t.Errorf("P5.1: New(%.9q, %d, nil): %#v", list, line, err)
			}
			for _, in := range []error{api.ErrLong, api.OK, api.Errno(99), plain, New("x", 0, api.ErrMany)} {
				a, ok := New(list, line, in).(*At)
				if !ok || a == nil || *a != (At{list, line, in}) {
					t.Fatalf("P5.1: New(%.9q, %d, %v): %#v", list, line, in, a)
				}
				if a.Unwrap() != in || a.Error() == "" {
					t.Errorf("P5.2: the methods of New(%.9q, %d, %v)", list, line, in)
				}
				hold(t, "New", a, told{Code(in), list, line, true, in})
			}
		}
	}
}

func TestNewIsNewMemory(t *testing.T) {
	a, b := New("words", 3, api.ErrLong), New("words", 3, api.ErrLong)
	if a == b {
		t.Error("R6: New twice: one *At")
	}
	a.(*At).Line = 4
	if _, line, _ := Where(b); line != 3 {
		t.Error("R6: New: a change to one is seen in the other")
	}
}

func TestOf(t *testing.T) {
	if err := Of(api.OK); err != nil {
		t.Errorf("P5.1: Of(OK): %#v", err)
	}
	for _, l := range [][]api.Errno{numbers, strange} {
		for _, n := range l {
			err := Of(n)
			if err != error(n) {
				t.Errorf("P5.1: Of(%d): %#v", n, err)
			}
			hold(t, fmt.Sprint("Of ", int(n)), err, told{code: n, inner: n})
			holdIs(t, fmt.Sprint("Of ", int(n)), err, n)
		}
	}
}

func TestEveryNumberWithin(t *testing.T) {
	for _, l := range [][]api.Errno{{api.OK}, numbers, strange} {
		for _, n := range l {
			name := fmt.Sprint("lists about ", int(n))
			one := New("fixes", 7, n)
			hold(t, name, one, told{n, "fixes", 7, true, n})
			holdIs(t, name, one, n)
			two := New("", 0, one)
			hold(t, name, two, told{n, "", 0, true, one})
			holdIs(t, name, two, n)
			three := New("words", -5, two)
			hold(t, name, three, told{n, "words", -5, true, two})
			holdIs(t, name, three, n)
		}
	}
}

func TestNone(t *testing.T) {
	hold(t, "nil", nil, told{})
	holdIs(t, "nil", nil)
}

func TestOKItselfIsANumber(t *testing.T) {
	hold(t, "OK as an error", api.OK, told{inner: api.OK})
	holdIs(t, "OK as an error", api.OK, api.OK)
}

func TestWithoutNumber(t *testing.T) {
	hold(t, "a plain error", plain, told{code: api.ErrOther, inner: plain})
	holdIs(t, "a plain error", plain)
	a := New("words", 2, plain)
	hold(t, "a plain error within", a, told{api.ErrOther, "words", 2, true, plain})
	holdIs(t, "a plain error within", a)
	b := New("book", 0, a)
	hold(t, "a plain error within two", b, told{api.ErrOther, "book", 0, true, a})
	holdIs(t, "a plain error within two", b)
}

func TestErrIsNil(t *testing.T) {
	for _, a := range []*At{{}, {List: "words"}, {Line: 3}, {List: "words", Line: -3}} {
		hold(t, "an *At about nil", a, told{api.ErrOther, a.List, a.Line, true, nil})
		holdIs(t, "an *At about nil", a)
		if a.Unwrap() != nil || a.Error() == "" {
			t.Errorf("P5.2: the methods of %#v", a)
		}
		hold(t, "an *At about such a one", New("x", 9, a), told{api.ErrOther, "x", 9, true, a})
	}
}

func TestNilAt(t *testing.T) {
	var none *At
	if none.Error() != "" || none.Unwrap() != nil {
		t.Error("R7: the methods of a nil *At")
	}
	hold(t, "a nil *At", none, told{code: api.ErrOther, inner: none})
	holdIs(t, "a nil *At", none)
	a := New("words", 3, none)
	hold(t, "an *At about a nil one", a, told{api.ErrOther, "words", 3, true, none})
	holdIs(t, "an *At about a nil one", a)
}

func TestErrorIsSomeWord(t *testing.T) {
	for _, err := range []error{New("", 0, api.OK), New("words", 3, api.ErrLong), &At{}, New("", math.MinInt64, plain)} {
		if err.Error() == "" {
			t.Errorf("P5.2: Error of %#v is empty", err)
		}
		if err.Error() != err.Error() {
			t.Errorf("R8: Error of %#v", err)
		}
	}
}

// wrapper wraps an error in a way of its own; it can't be compared with ==.
type wrapper struct {
	in   error
	more []int
}

func (w wrapper) Error() string { return "a wrapper" }
func (w wrapper) Unwrap() error { return w.in }

// claims says of itself which number and which *At it has, by methods.
type claims struct {
	code api.Errno
	at   *At
	in   error
}

func (c *claims) Error() string        { return "a claim" }
func (c *claims) Unwrap() error        { return c.in }
func (c *claims) Is(target error) bool { return target == error(c.code) }
func (c *claims) As(target any) bool {
	switch x := target.(type) {
	case *api.Errno:
		*x = c.code
		return true
	case **At:
		*x = c.at
		return c.at != nil
	}
	return false
}

func TestErrorsFromOutside(t *testing.T) {
	wrapped := fmt.Errorf("w: %w", api.ErrForm)
	hold(t, "a wrapped number", wrapped, told{code: api.ErrForm, inner: wrapped})
	holdIs(t, "a wrapped number", wrapped, api.ErrForm)

	a := New("diff", 4, wrapped)
	about := fmt.Errorf("about: %w", a)
	hold(t, "an *At, wrapped", about, told{api.ErrForm, "diff", 4, true, wrapped})
	holdIs(t, "an *At, wrapped", about, api.ErrForm)

	both := errors.Join(plain, New("first", 1, api.ErrText), New("second", 2, api.ErrEnd))
	hold(t, "a join", both, told{api.ErrText, "first", 1, true, api.ErrText})
	holdIs(t, "a join", both, api.ErrText, api.ErrEnd)

	ahead := errors.Join(api.ErrHead, New("first", 1, api.ErrText))
	hold(t, "a join with its number ahead", ahead, told{api.ErrHead, "first", 1, true, api.ErrText})
	holdIs(t, "a join with its number ahead", ahead, api.ErrHead, api.ErrText)

	odd := New("x", 1, wrapper{wrapper{New("y", 2, wrapper{api.ErrNone, nil}), []int{1}}, nil})
	if Code(odd) != api.ErrNone || !Is(odd, api.ErrNone) || Is(odd, api.ErrOther) {
		t.Error("P5.1: errors that can't be compared")
	}
	if list, line, ok := Where(Inner(odd)); list != "y" || line != 2 || !ok {
		t.Error("P5.2: errors that can't be compared")
	}
	bare := wrapper{plain, []int{}}
	if Code(bare) != api.ErrOther || Is(bare, api.ErrOther) {
		t.Error("P5.1: one that can't be compared, without a number")
	}
	if in, ok := Inner(bare).(wrapper); !ok || in.in != plain {
		t.Error("P5.2: Inner of one that can't be compared")
	}

	claim := &claims{api.ErrName, &At{"claimed", 8, plain}, api.ErrOrder}
	hold(t, "one that claims", claim, told{api.ErrName, "claimed", 8, true, plain})
	holdIs(t, "one that claims", claim, api.ErrName, api.ErrOrder)
	hold(t, "an *At about one that claims", New("w", 1, claim), told{api.ErrName, "w", 1, true, claim})
}

// node is an error and what must be told of it.
type node struct {
	name string
	err  error
	told
	has []api.Errno
}

// leaves are errors that wrap nothing.
func leaves() []node {
	l := []node{{"plain", plain, told{code: api.ErrOther, inner: plain}, nil}}
	for _, n := range []api.Errno{api.ErrNil, api.ErrOther, api.OK, -7} {
		l = append(l, node{fmt.Sprint(int(n)), n, told{code: n, inner: n}, []api.Errno{n}})
	}
	empty := &At{"empty", 6, nil}
	return append(l, node{"empty", empty, told{api.ErrOther, "empty", 6, true, nil}, nil})
}

// about are all the ways to wrap one error.
func about(n node) []node {
	listed := &At{"a", 1, n.err}
	bare := &At{"", 0, n.err}
	wrapped := fmt.Errorf("%w", n.err)
	joined := errors.Join(plain, n.err)
	l := []node{
		{"a(" + n.name + ")", listed, told{n.code, "a", 1, true, n.err}, n.has},
		{"bare(" + n.name + ")", bare, told{n.code, "", 0, true, n.err}, n.has},
		{"wrapped(" + n.name + ")", wrapped, n.told, n.has},
		{"joined(" + n.name + ")", joined, n.told, n.has},
	}
	for i := range l[2:] {
		if !n.ok {
			l[2+i].inner = l[2+i].err
		}
	}
	return l
}

func TestAllShallowTrees(t *testing.T) {
	level := leaves()
	for range 5 {
		var next []node
		for _, n := range level {
			hold(t, n.name, n.err, n.told)
			holdIs(t, n.name, n.err, n.has...)
			next = append(next, about(n)...)
		}
		level = next
	}
}

func TestLongChains(t *testing.T) {
	const long = 100000
	var err error = api.ErrCount
	for i := range long {
		err = New("hunk", i, err)
	}
	if Code(err) != api.ErrCount || !Is(err, api.ErrCount) || Is(err, api.ErrForm) {
		t.Error("P5.1: a long chain")
	}
	n := 0
	for ; ; n++ {
		list, line, ok := Where(err)
		if !ok {
			break
		}
		if list != "hunk" || line != long-1-n {
			t.Fatalf("P5.2: Where in a long chain: %q, %d", list, line)
		}
		err = Inner(err)
	}
	if n != long || err != api.ErrCount {
		t.Errorf("P5.2: Inner along a long chain: %d steps, %v", n, err)
	}
}

// ring is so many *At, each about the next, the last about the first, with so many others ahead of them.
func ring(ahead, round int) *At {
	last := &At{List: "ring"}
	first := last
	for i := 1; i < round; i++ {
		first = &At{"ring", i, first}
	}
	last.Err = first
	for i := range ahead {
		first = &At{"ahead", i, first}
	}
	return first
}

func TestErrorsThatHoldThemselves(t *testing.T) {
	for ahead := range 9 {
		for round := 1; round < 10; round++ {
			a := ring(ahead, round)
			name := fmt.Sprintf("a ring of %d behind %d", round, ahead)
			hold(t, name, a, told{api.ErrOther, a.List, a.Line, true, a.Err})
			holdIs(t, name, a)
			if a.Unwrap() != a.Err || a.Error() == "" {
				t.Errorf("P5.2: the methods of %s", name)
			}
		}
	}
	a := &At{List: "x", Line: 1}
	a.Err = fmt.Errorf("about: %w", a)
	hold(t, "a ring through another's", a, told{api.ErrOther, "x", 1, true, a.Err})
	holdIs(t, "a ring through another's", a)
}

func TestRingsThatCantBeCompared(t *testing.T) {
	for ahead := range 6 {
		for round := range 9 {
			a := &At{List: "x", Line: 1}
			var err error = a
			for range round {
				err = wrapper{err, nil}
			}
			a.Err = err
			for range ahead {
				err = wrapper{err, nil}
			}
			name := fmt.Sprintf("a ring of one and %d behind %d", round, ahead)
			if list, line, ok := Where(err); Code(err) != api.ErrOther || list != "x" || line != 1 || !ok {
				t.Errorf("P1: %s: %d, %q, %d, %v", name, Code(err), list, line, ok)
			}
			holdIs(t, name, err)
		}
	}
}

func TestLongRings(t *testing.T) {
	for _, round := range []int{100, 1000, 100000} {
		a := ring(round, round)
		name := fmt.Sprintf("a ring of %d", round)
		hold(t, name, a, told{api.ErrOther, a.List, a.Line, true, a.Err})
		if Is(a, api.ErrLong) {
			t.Errorf("P5.1: Is of %s", name)
		}
	}
}

// rowOf wraps several errors; it can't be compared with ==.
type rowOf []error

func (r rowOf) Error() string   { return "a row" }
func (r rowOf) Unwrap() []error { return r }

// anew wraps several errors, and makes their list anew each time.
type anew struct{ in []error }

func (a *anew) Error() string   { return "anew" }
func (a *anew) Unwrap() []error { return append([]error(nil), a.in...) }

// joins are the ways to wrap several errors.
var joins = map[string]func(l ...error) error{
	"Join":    func(l ...error) error { return errors.Join(l...) },
	"a row":   func(l ...error) error { return rowOf(l) },
	"anew":    func(l ...error) error { return &anew{l} },
	"Errorf":  func(l ...error) error { return fmt.Errorf(strings.Repeat("%w ", len(l)), anys(l)...) },
	"wrapped": func(l ...error) error { return fmt.Errorf("%w", wrapper{errors.Join(l...), nil}) },
}

func anys(l []error) []any {
	var out []any
	for _, err := range l {
		out = append(out, err)
	}
	return out
}

func TestErrorsThatJoinThemselves(t *testing.T) {
	for name, join := range joins {
		// Errorf asks what it wraps for its word, so the ring is closed behind it.
		a := &At{List: "x", Line: 1}
		in := &At{"y", 2, nil}
		a.Err = in
		in.Err = join(a)
		hold(t, "one that joins itself: "+name, a, told{api.ErrOther, "x", 1, true, in})
		in.Err = join(plain, in, a)
		hold(t, "one that joins itself and others: "+name, a, told{api.ErrOther, "x", 1, true, in})
		if Is(a, api.ErrLong) || Is(a, api.OK) {
			t.Errorf("P5.1: Is of one that joins itself: %s", name)
		}
	}
}

func TestNumbersAboutRings(t *testing.T) {
	for name, join := range joins {
		in := &At{List: "y", Line: 2}
		a := &At{"x", 1, in}
		want := told{api.ErrLong, "x", 1, true, in}
		in.Err = join(api.ErrLong, a)
		hold(t, "a number ahead of a ring: "+name, a, want)
		in.Err = join(a, api.ErrLong)
		hold(t, "a number behind a ring: "+name, a, want)
		b := &At{List: "z", Line: 3}
		b.Err = b
		in.Err = join(plain, b, New("v", 4, join(a, New("w", 5, api.ErrLong), api.ErrMany)))
		hold(t, "numbers behind rings: "+name, a, want)
		for _, n := range numbers {
			if Is(a, n) != (n == api.ErrLong || n == api.ErrMany) {
				t.Errorf("P5.1: Is of numbers behind rings (%s) and %d", name, n)
			}
		}
	}
}

// self is an error that wraps itself.
type self struct{ name string }

func (*self) Error() string   { return "self" }
func (s *self) Unwrap() error { return s }

// selves is an error that wraps itself, as one of several.
type selves struct{ others []error }

func (*selves) Error() string     { return "selves" }
func (s *selves) Unwrap() []error { return append([]error{s}, s.others...) }

// mirror is an error that wraps another like it, which wraps it.
type mirror struct {
	name  string
	other *mirror
}

func (*mirror) Error() string   { return "mirror" }
func (m *mirror) Unwrap() error { return m.other }

func TestOutsidersThatWrapThemselves(t *testing.T) {
	s := &self{"s"}
	two := &mirror{name: "one"}
	two.other = &mirror{"two", two}
	for name, err := range map[string]error{"one that wraps itself": s, "two that wrap one another": two, "one that wraps itself among others": &selves{[]error{plain, s}}} {
		hold(t, name, err, told{code: api.ErrOther, inner: err})
		holdIs(t, name, err)
		a := New("words", 3, err)
		hold(t, "an *At about "+name, a, told{api.ErrOther, "words", 3, true, err})
		holdIs(t, "an *At about "+name, a)
		about := fmt.Errorf("%w", a)
		hold(t, "one about an *At about "+name, about, told{api.ErrOther, "words", 3, true, err})
		behind := errors.Join(err, a, api.ErrText)
		hold(t, "an *At behind "+name, behind, told{api.ErrText, "words", 3, true, err})
		holdIs(t, "an *At behind "+name, behind, api.ErrText)
	}
	l := &selves{[]error{New("x", 5, api.ErrHead)}}
	hold(t, "an *At that such a one wraps, too", l, told{api.ErrHead, "x", 5, true, api.ErrHead})
}

// more wraps ever more.
type more int

func (m more) Error() string { return "more" }
func (m more) Unwrap() error { return m + 1 }

func TestEndlessOnes(t *testing.T) {
	err := errors.Join(more(0), New("x", 1, api.ErrEnd))
	if list, line, ok := Where(err); list != "x" || line != 1 || !ok {
		t.Error("P5.2: Where behind an endless chain")
	}
}

func TestSharedOnes(t *testing.T) {
	for name, join := range joins {
		if name == "anew" || name == "Errorf" {
			continue // The one isn't known again, the other's word doubles each time.
		}
		err := plain
		for range 80 {
			err = join(err, err)
		}
		last := New("x", 7, join(plain, api.ErrCount))
		behind := &At{"y", 0, join(err, last)}
		hold(t, "what is shared: "+name, behind, told{api.ErrCount, "y", 0, true, behind.Err})
		holdIs(t, "what is shared: "+name, behind, api.ErrCount)
		if _, line, ok := Where(behind.Err); line != 7 || !ok {
			t.Errorf("P5.2: Where behind what is shared: %s", name)
		}
	}
}

func TestDeepJoins(t *testing.T) {
	defer debug.SetMaxStack(debug.SetMaxStack(1 << 24))
	var err error = New("deep", 9, api.ErrName)
	for range 300000 {
		err = errors.Join(err)
	}
	hold(t, "deep joins", err, told{api.ErrName, "deep", 9, true, api.ErrName})
	if !Is(err, api.ErrName) || Is(err, api.ErrOrder) {
		t.Error("P5.1: Is of deep joins")
	}
}

// wild panics in whatever it is asked.
type wild struct{}

func (*wild) Error() string { panic("Error") }
func (*wild) Unwrap() error { panic("Unwrap") }
func (*wild) Is(error) bool { panic("Is") }
func (*wild) As(any) bool   { panic("As") }

func TestErrorsThatPanic(t *testing.T) {
	w := &wild{}
	hold(t, "a wild one", w, told{code: api.ErrOther, inner: w})
	holdIs(t, "a wild one", w)
	a := New("words", 3, w)
	hold(t, "an *At about a wild one", a, told{api.ErrOther, "words", 3, true, w})
	holdIs(t, "an *At about a wild one", a)
	if a.Error() == "" {
		t.Error("P5.2: Error of an *At about a wild one")
	}
	claim := &claims{api.ErrName, nil, w}
	if Code(claim) != api.ErrName || !Is(claim, api.ErrName) {
		t.Error("P5.1: a number ahead of a wild one")
	}
}

func TestNothingIsChanged(t *testing.T) {
	in := &At{"in", 2, api.ErrWord}
	out := &At{"out", 1, in}
	Code(out)
	Is(out, api.ErrWord)
	Where(out)
	Inner(out)
	New("more", 3, out)
	if *in != (At{"in", 2, api.ErrWord}) || *out != (At{"out", 1, in}) {
		t.Error("R6: an error was changed")
	}
}
