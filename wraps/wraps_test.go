package wraps

import (
	"errors"
	"fmt"
	"runtime/debug"
	"slices"
	"strings"
	"testing"
)

// number is a leaf; two of the same number are the same error.
type number int

func (n number) Error() string { return fmt.Sprint(int(n)) }

// link wraps one error.
type link struct{ in error }

func (l *link) Error() string { return "a link" }
func (l *link) Unwrap() error { return l.in }

// box wraps one error, too, which lies within it: boxes are compared to the bottom.
type box struct{ in error }

func (b box) Error() string { return "a box" }
func (b box) Unwrap() error { return b.in }

// bag wraps one error, and can't be compared.
type bag struct {
	in   *error
	more []int
}

func (b bag) Error() string { return "a bag" }
func (b bag) Unwrap() error { return *b.in }

// row wraps several, and can't be compared.
type row []error

func (r row) Error() string   { return "a row" }
func (r row) Unwrap() []error { return r }

// anew wraps several, and makes its list anew each time.
type anew struct{ in []error }

func (a *anew) Error() string   { return "anew" }
func (a *anew) Unwrap() []error { return slices.Clone(a.in) }

// numbers are those of what Each gives, one behind the other.
func numbers(err error) []number {
	var l []number
	for p := range Each[number, *link](err) {
		var n number
		if errors.As(p, &n) {
			l = append(l, n)
		}
	}
	return l
}

// count is how many Each gives of any kind.
func count(err error) int {
	n := 0
	for range Each[error, *link](err) {
		n++
	}
	return n
}

// tree is an error, and which numbers are in it, in order.
type tree struct {
	err  error
	want []number
}

// about are all the ways to wrap one or two of the trees.
func about(l []tree) []tree {
	var out []tree
	for _, t := range l {
		in := t.err
		out = append(out, tree{&link{in}, t.want}, tree{box{in}, t.want}, tree{bag{&in, nil}, t.want}, tree{fmt.Errorf("%w", in), t.want}, tree{row{nil, in}, t.want})
	}
	for _, t := range l {
		for _, u := range l {
			both := append(slices.Clone(t.want), u.want...)
			out = append(out, tree{errors.Join(t.err, u.err), both}, tree{row{t.err, u.err}, both}, tree{&anew{[]error{t.err, u.err}}, both}, tree{fmt.Errorf("%w, %w", t.err, u.err), both})
		}
	}
	return out
}

// firsts are numbers without those that were there: what is shared is gone over once.
func firsts(l []number) []number {
	var out []number
	for _, n := range l {
		if !slices.Contains(out, n) {
			out = append(out, n)
		}
	}
	return out
}

func TestOrder(t *testing.T) {
	level := []tree{{number(1), []number{1}}, {number(2), []number{2}}, {number(3), []number{3}}, {&link{}, nil}, {row{}, nil}, {errors.New("x"), nil}}
	for range 2 {
		level = about(level)
		for _, u := range level {
			if got := numbers(u.err); !slices.Equal(firsts(got), firsts(u.want)) {
				t.Fatalf("%#v: %v, not %v", u.err, got, u.want)
			}
		}
	}
}

func TestOrderIsTheLibrarys(t *testing.T) {
	leaf := []tree{{number(1), nil}, {number(2), nil}, {errors.New("x"), nil}}
	for _, u := range about(about(leaf)) {
		var want number
		found := errors.As(u.err, &want)
		got := numbers(u.err)
		if found != (len(got) > 0) || found && got[0] != want {
			t.Fatalf("%#v: %v; errors.As: %v, %v", u.err, got, want, found)
		}
		for n := range number(4) {
			if errors.Is(u.err, n) != slices.Contains(got, n) {
				t.Fatalf("%#v: %v; errors.Is: %v of %d", u.err, got, errors.Is(u.err, n), n)
			}
		}
	}
}

func TestNil(t *testing.T) {
	if n := count(nil); n != 0 {
		t.Errorf("nil has %d", n)
	}
}

func TestPartsStandAlone(t *testing.T) {
	plain := errors.New("x")
	l := &link{plain}
	var parts []error
	for p := range Each[error, *link](errors.Join(l, number(3))) {
		if _, several := p.(interface{ Unwrap() []error }); several || errors.Unwrap(p) != nil {
			t.Errorf("%#v wraps others", p)
		}
		parts = append(parts, p)
	}
	if len(parts) != 4 {
		t.Fatalf("%d parts", len(parts))
	}
	for i, p := range parts {
		if errors.Is(p, plain) != (i == 2) || errors.Is(p, number(3)) != (i == 3) || errors.Is(p, l) != (i == 1) || errors.Is(p, number(4)) {
			t.Errorf("part %d is another", i)
		}
	}
}

func TestKinds(t *testing.T) {
	c := &claims{number: 4}
	l := &link{errors.Join(number(3), c)}
	var links, others []error
	for p := range Each[*link, *link](l) {
		links = append(links, p)
	}
	for p := range Each[number, *link](l) {
		others = append(others, p)
	}
	if len(links) != 2 || len(others) != 2 {
		t.Fatalf("links: %#v, numbers: %#v", links, others)
	}
	var got *link
	if !errors.As(links[0], &got) || got != l || !errors.Is(links[1], number(4)) {
		t.Errorf("links: %#v", links)
	}
	var n number
	if !errors.As(others[0], &n) || n != 3 || !errors.As(others[1], &n) || n != 4 {
		t.Errorf("numbers: %#v", others)
	}
	if errors.As(links[0], &n) || errors.As(others[0], &got) {
		t.Error("one is of another kind than asked for")
	}
}

func TestStopsWhereNoMoreIsWanted(t *testing.T) {
	asked := 0
	tail := func() error { asked++; return number(9) }
	for range Each[error, *link](errors.Join(&later{tail}, &later{tail})) {
		break
	}
	if asked != 0 {
		t.Error("went on behind a break")
	}
	for p := range Each[number, *link](errors.Join(number(1), &later{tail})) {
		if errors.Is(p, number(1)) {
			break
		}
	}
	if asked != 0 {
		t.Error("went on behind a break within a list")
	}
}

// later wraps what a function answers.
type later struct{ in func() error }

func (l *later) Error() string { return "later" }
func (l *later) Unwrap() error { return l.in() }

// claims gives itself out as a number.
type claims struct {
	number
	in error
}

func (c *claims) Unwrap() error        { return c.in }
func (c *claims) Is(target error) bool { return target == error(c.number) }
func (c *claims) As(target any) bool {
	if p, ok := target.(*number); ok {
		*p = c.number
	}
	return c.number > 0
}

func TestClaims(t *testing.T) {
	err := &claims{5, &claims{0, &claims{6, number(7)}}}
	if got := numbers(err); !slices.Equal(got, []number{5, 6, 7}) {
		t.Errorf("those that claim: %v", got)
	}
	ring := &claims{number: 8}
	ring.in = ring
	if got := numbers(ring); len(got) == 0 || got[0] != 8 {
		t.Errorf("one on a ring that claims: %v", got)
	}
	for p := range Each[number, *link](ring) {
		if !errors.Is(p, number(8)) || errors.Is(p, number(9)) {
			t.Error("Is of one on a ring that claims")
		}
	}
}

// onlyIs claims by Is alone, onlyAs by As alone.
type onlyIs struct{ error }

func (onlyIs) Is(target error) bool { return target == error(number(5)) }

type onlyAs struct{ error }

func (onlyAs) As(target any) bool {
	p, ok := target.(*number)
	if ok {
		*p = 6
	}
	return ok
}

func TestClaimsByOneMethod(t *testing.T) {
	var is, as bool
	for p := range Each[number, *link](errors.Join(onlyIs{}, onlyAs{})) {
		var n number
		is = is || errors.Is(p, number(5))
		as = as || errors.As(p, &n) && n == 6
	}
	if !is || !as {
		t.Errorf("one that claims by Is: %v; by As: %v", is, as)
	}
}

// once tells what it wraps the first time only.
type once struct{ in []error }

func (o *once) Error() string { return "once" }
func (o *once) Unwrap() []error {
	l := o.in
	o.in = nil
	return l
}

func TestListThatIsGone(t *testing.T) {
	if got := numbers(&once{[]error{number(1), number(2)}}); !slices.Equal(got, []number{1, 2}) {
		t.Errorf("a list that is gone when asked for again: %v", got)
	}
}

// wild panics in whatever it is asked.
type wild struct{ row }

func (*wild) Unwrap() []error { panic("Unwrap") }
func (*wild) Is(error) bool   { panic("Is") }
func (*wild) As(any) bool     { panic("As") }

// wilder panics as one that wraps one error.
type wilder struct{ error }

func (*wilder) Unwrap() error { panic("Unwrap") }

func TestPanics(t *testing.T) {
	var none *link
	err := errors.Join(&wild{}, number(1), &wilder{}, &link{&wild{}}, none, row{nil, &wilder{}}, number(2))
	if got := numbers(err); !slices.Equal(got, []number{1, 2}) {
		t.Errorf("about those that panic: %v", got)
	}
	for p := range Each[number, *link](&wild{}) {
		if errors.Is(p, number(1)) {
			t.Error("one that panics is a number")
		}
	}
	// They can be compared by their kind, but not by what they hold.
	odd := box{row{}}
	for p := range Each[error, *link](odd) {
		if errors.Is(p, box{row{}}) {
			t.Error("one that can't be compared is another")
		}
	}
}

// round is a ring of so many errors behind so many others, each made by wrap.
func round(ahead, length int, wrap func(*error) error) error {
	first := new(error)
	last := *first
	next := first
	for range length {
		in := new(error)
		last = wrap(in)
		*next = last
		next = in
	}
	*next = *first
	err := *first
	for range ahead {
		in := err
		err = wrap(&in)
	}
	return err
}

// pointed wraps what a pointer leads to.
type pointed struct{ in *error }

func (p pointed) Error() string { return "pointed" }
func (p pointed) Unwrap() error { return *p.in }

func TestRings(t *testing.T) {
	for _, ahead := range []int{0, 1, 2, 7, 255, 256, 257, 20000} {
		for _, length := range []int{1, 2, 3, 100} {
			for name, wrap := range map[string]func(*error) error{
				"links":  func(in *error) error { return &later{func() error { return *in }} },
				"values": func(in *error) error { return pointed{in} },
			} {
				err := round(ahead, length, wrap)
				if n := count(err); n < ahead+length || n > 1<<21 {
					t.Errorf("a ring of %d %s behind %d: %d parts", length, name, ahead, n)
				}
				both := errors.Join(err, number(7))
				if got := numbers(both); !slices.Equal(got, []number{7}) {
					t.Errorf("a number behind a ring of %d %s: %v", length, name, got)
				}
			}
		}
	}
}

// chained is a ring of so many links behind so many others.
func chained(ahead, length int) error {
	last := &link{}
	first := last
	for range length - 1 {
		first = &link{first}
	}
	last.in = first
	for range ahead {
		first = &link{first}
	}
	return first
}

func TestRingsOfPointers(t *testing.T) {
	for _, ahead := range []int{0, 1, 2, 3, 10, 100, 1000, 100000} {
		for _, length := range []int{1, 2, 3, 4, 10, 63, 64, 65, 1000, 100000} {
			if n := count(chained(ahead, length)); n < ahead+length || n > 4*(ahead+length)+4 {
				t.Errorf("a ring of %d links behind %d: %d parts", length, ahead, n)
			}
		}
	}
}

func TestRingsOfPointersAndOthers(t *testing.T) {
	for others := range 1000 {
		a := &link{}
		var err error = a
		for range others {
			err = box{err}
		}
		a.in = err
		if n := count(a); n < 1+others || n > 4*(1+others) {
			t.Errorf("a ring of a link and %d boxes: %d parts", others, n)
		}
	}
}

func TestNilPointer(t *testing.T) {
	var none *link
	if n := count(none); n != 1 {
		t.Errorf("a nil pointer: %d parts", n)
	}
}

func TestLongRings(t *testing.T) {
	wrap := func(in *error) error { return pointed{in} }
	for _, length := range []int{look - 1, look} {
		if n := count(round(3, length, wrap)); n < 3+length {
			t.Errorf("a ring of %d: %d parts", length, n)
		}
	}
}

func TestRingsThatCantBeCompared(t *testing.T) {
	if n := count(round(0, 1, func(in *error) error { return bag{in, nil} })); n == 0 {
		t.Error("no parts")
	}
	// One that can be compared is enough to find out.
	i := 0
	mixed := func(in *error) error {
		i++
		if i == 1 {
			return pointed{in}
		}
		return bag{in, nil}
	}
	for length := range 15 {
		i = 0
		if n := count(round(0, length+1, mixed)); n > 1<<12 {
			t.Errorf("a ring of %d, one of which can be compared: %d parts", length, n)
		}
	}
}

func TestRingsThroughLists(t *testing.T) {
	a := &link{}
	a.in = errors.Join(a)
	if n := count(a); n > 4 {
		t.Errorf("an error joined to itself: %d parts", n)
	}
	a.in = errors.Join(a, number(1), a, errors.Join(a, number(2)))
	if got := numbers(a); !slices.Equal(got, []number{1, 2}) {
		t.Errorf("numbers behind a ring: %v", got)
	}
	r := make(row, 3)
	r[0], r[1], r[2] = r, r, number(3)
	if got := numbers(r); !slices.Equal(got, []number{3}) {
		t.Errorf("a row that holds itself: %v", got)
	}
	n := &anew{}
	n.in = []error{n}
	if got := count(n); got > 1<<24 {
		t.Errorf("a list made anew that holds itself: %d parts", got)
	}
	n.in = []error{n, n, number(4)}
	if got := numbers(n); len(got) == 0 || slices.ContainsFunc(got, func(n number) bool { return n != 4 }) {
		t.Errorf("numbers behind lists made anew: %d of them", len(got))
	}
}

func TestListsThatBeginAlike(t *testing.T) {
	r := row{number(1), number(2), number(3)}
	if got := numbers(row{r[:1], r[:2], r, r[:2]}); !slices.Equal(got, []number{1, 1, 2, 1, 2, 3}) {
		t.Errorf("lists that lie in one another: %v", got)
	}
}

func TestSharedParts(t *testing.T) {
	for _, join := range []func(a, b error) error{
		func(a, b error) error { return errors.Join(a, b) },
		func(a, b error) error { return row{a, b} },
		func(a, b error) error { return fmt.Errorf("%w %w", a, b) },
	} {
		var err error = errors.New("x")
		for range 100 {
			err = &link{join(err, err)}
		}
		err = join(err, join(errors.New("y"), number(5)))
		if got := numbers(err); !slices.Equal(got, []number{5}) {
			t.Errorf("a number behind what is shared: %v", got)
		}
	}
}

func TestDeep(t *testing.T) {
	defer debug.SetMaxStack(debug.SetMaxStack(1 << 24))
	const deep = 300000
	var a, b, c error = number(1), number(2), number(3)
	for range deep {
		a, b, c = &link{a}, errors.Join(b), errors.Join(errors.New("x"), row{c, number(4)})
	}
	if got := numbers(a); !slices.Equal(got, []number{1}) {
		t.Errorf("a number deep in a chain: %v", got)
	}
	if got := numbers(b); !slices.Equal(got, []number{2}) {
		t.Errorf("a number deep in lists: %v", got)
	}
	if got := numbers(c); len(got) != deep+1 || got[0] != 3 || got[1] != 4 || got[deep] != 4 {
		t.Errorf("numbers behind one deep in lists: %d", len(got))
	}
}

func TestBoxes(t *testing.T) {
	var err error = number(1)
	for range 100000 {
		err = box{err}
	}
	if got := numbers(err); !slices.Equal(got, []number{1}) {
		t.Errorf("a number within many boxes: %v", got)
	}
}

// more wraps ever more, one at a time.
type more int

func (m more) Error() string { return "more" }
func (m more) Unwrap() error { return m + 1 }

// lots wraps ever more, two at a time, by new lists.
type lots string

func (l lots) Error() string   { return "lots" }
func (l lots) Unwrap() []error { return []error{lots(l[len(l)/2:]) + "x", lots(l[len(l)/2:]) + "y"} }

func TestEndless(t *testing.T) {
	if n := count(more(0)); n < 1<<27 {
		t.Errorf("an endless chain: %d parts", n)
	}
	if n := count(lots(strings.Repeat("z", 9))); n < 1<<18 {
		t.Errorf("endless lists: %d parts", n)
	}
	if got := numbers(errors.Join(lots("z"), &link{number(6)})); !slices.Equal(got, []number{6}) {
		t.Errorf("a number behind endless lists: %v", got)
	}
}
