package label

import (
	"fmt"
	"math"
	"math/rand"
	"slices"
	"testing"

	"redpen/api"
	"redpen/span"
)

const top = api.MaxFile

// edges are numbers at which an answer may turn.
var edges = []int{
	math.MinInt, math.MinInt + 1, math.MinInt + top, -2 * top, -top - 1, -top, -top + 1, -2, -1, 0, 1, 2, 3,
	top - 1, top, top + 1, 2 * top, math.MaxInt - top, math.MaxInt - 1, math.MaxInt,
}

// all are the labels that have a name.
var all = []api.Label{api.Prose, api.Markup, api.Remark, api.Code, api.Quoted, api.Opaque, api.Raw}

func part(l api.Label, at, length int) api.Seg {
	return api.Seg{Label: l, Span: api.Span{At: at, Len: length}}
}

func made(t *testing.T, n int) *Sheet {
	t.Helper()
	s, e := New(n)
	if s == nil || e != api.OK {
		t.Fatalf("P10.1: New(%d): %v, %d", n, s, e)
	}
	return s
}

// written is a sheet of just these labels, and what is to be told of it.
func written(t *testing.T, l ...api.Label) (*Sheet, paper) {
	t.Helper()
	s := made(t, len(l))
	for i, here := range l {
		s.Set(here, i, i+1)
	}
	p := paper(slices.Clone(l))
	hold(t, s, p, "written byte by byte")
	return s, p
}

// paper is what a sheet must be: each byte's label, one by one.
type paper []api.Label

func blank(n int) paper {
	return slices.Repeat(paper{api.Prose}, n)
}

func (p paper) set(l api.Label, from, to int) {
	for i := range p {
		if i >= from && i < to {
			p[i] = l
		}
	}
}

// lay asks of each byte which of the other's was laid on it.
func (p paper) lay(at int, other paper) {
	if at < -65536 || at > 65536 {
		return
	}
	old := slices.Clone(other)
	for j := range p {
		if i := j - at; i >= 0 && i < len(old) {
			p[j] = old[i]
		}
	}
}

// segs asks of each byte whether a part begins there, and then where it ends.
func (p paper) segs() []api.Seg {
	var l []api.Seg
	for i := range p {
		if i > 0 && p[i] == p[i-1] {
			continue
		}
		end := i
		for end < len(p) && p[end] == p[i] {
			end++
		}
		l = append(l, part(p[i], i, end-i))
	}
	return l
}

// hold holds a sheet against what it must be.
func hold(t *testing.T, s *Sheet, want paper, what string, more ...any) {
	t.Helper()
	what = fmt.Sprintf(what, more...)
	if s.Len() != len(want) {
		t.Fatalf("P10.1: %s: Len: %d, not %d", what, s.Len(), len(want))
	}
	for i, l := range want {
		if s.At(i) != l {
			t.Fatalf("P10.1: %s: At(%d): %d, not %d", what, i, s.At(i), l)
		}
	}
	if a, b := s.At(-1), s.At(len(want)); a != 0 || b != 0 {
		t.Fatalf("P10.1: %s: At(-1), At(%d): %d, %d", what, len(want), a, b)
	}
	l := s.Segs()
	if !slices.Equal(l, want.segs()) {
		t.Fatalf("P10.1: %s: Segs: %.200v, not %.200v", what, fmt.Sprint(l), fmt.Sprint(want.segs()))
	}
	lossless(t, s, l, what)
}

// lossless holds the parts of a sheet against its bytes: P3.
func lossless(t *testing.T, s *Sheet, l []api.Seg, what string) {
	t.Helper()
	var spans []api.Span
	for k, g := range l {
		spans = append(spans, g.Span)
		if k > 0 && l[k-1].Label == g.Label {
			t.Fatalf("P3, P10.1: %s: parts %d and %d are both of label %d", what, k-1, k, g.Label)
		}
		for i := g.Span.At; i < g.Span.At+g.Span.Len; i++ {
			if s.At(i) != g.Label {
				t.Fatalf("P3, P10.1: %s: part %v: byte %d is %d", what, g, i, s.At(i))
			}
		}
	}
	if !span.Cover(spans, s.Len()) {
		t.Fatalf("P3, P10.1: %s: the parts are not all of %d bytes, side by side", what, s.Len())
	}
}

func TestExample(t *testing.T) {
	s := made(t, 4)
	s.Set(api.Code, 1, 3)
	want := []api.Seg{part(api.Prose, 0, 1), part(api.Code, 1, 2), part(api.Prose, 3, 1)}
	if got := s.Segs(); !slices.Equal(got, want) {
		t.Errorf("P10.1: Segs: %v, not %v", got, want)
	}
	for i, l := range []api.Label{1, 4, 4, 1} {
		if s.At(i) != l {
			t.Errorf("P10.1: At(%d): %d, not %d", i, s.At(i), l)
		}
	}
}

func TestNew(t *testing.T) {
	for _, n := range []int{0, 1, 2, 3, 7, 8, 9, 255, 256, 257, 4095, 4096, 65535, 65536} {
		s := made(t, n)
		hold(t, s, blank(n), "New(%d)", n)
		want := []api.Seg{part(api.Prose, 0, n)}
		if n == 0 {
			want = nil
		}
		if got := s.Segs(); !slices.Equal(got, want) {
			t.Errorf("P10.1: New(%d): Segs: %v", n, got)
		}
	}
}

func TestNewRefuses(t *testing.T) {
	for _, n := range []int{-1, -2, -65536, 65537, 65538, 1 << 17, 1 << 32, 1<<32 + 1, -1 << 32, math.MinInt, math.MinInt + 1, math.MaxInt, math.MaxInt - 1} {
		if s, e := New(n); s != nil || e != api.ErrRange {
			t.Errorf("P10.1, R3: New(%d): %v, %d, not nil, ErrRange", n, s, e)
		}
	}
}

func TestSheetsAreApart(t *testing.T) {
	a, b := made(t, 5), made(t, 5)
	a.Set(api.Raw, 0, 5)
	hold(t, b, blank(5), "a sheet beside another one")
	hold(t, made(t, 5), blank(5), "a sheet made behind another one")
	hold(t, a, paper{7, 7, 7, 7, 7}, "a sheet beside others")
}

func TestSet(t *testing.T) {
	for _, c := range []struct {
		n, from, to int
		want        []api.Seg
	}{
		{5, 0, 5, []api.Seg{part(api.Code, 0, 5)}},
		{5, 0, 1, []api.Seg{part(api.Code, 0, 1), part(api.Prose, 1, 4)}},
		{5, 4, 5, []api.Seg{part(api.Prose, 0, 4), part(api.Code, 4, 1)}},
		{5, 2, 2, []api.Seg{part(api.Prose, 0, 5)}},
		{5, 0, 0, []api.Seg{part(api.Prose, 0, 5)}},
		{5, 5, 5, []api.Seg{part(api.Prose, 0, 5)}},
		{5, 3, 1, []api.Seg{part(api.Prose, 0, 5)}},
		{5, 5, 0, []api.Seg{part(api.Prose, 0, 5)}},
		{5, -1, 2, []api.Seg{part(api.Code, 0, 2), part(api.Prose, 2, 3)}},
		{5, 3, 6, []api.Seg{part(api.Prose, 0, 3), part(api.Code, 3, 2)}},
		{5, -9, 9, []api.Seg{part(api.Code, 0, 5)}},
		{5, -9, 0, []api.Seg{part(api.Prose, 0, 5)}},
		{5, -9, -1, []api.Seg{part(api.Prose, 0, 5)}},
		{5, 5, 9, []api.Seg{part(api.Prose, 0, 5)}},
		{5, 6, 9, []api.Seg{part(api.Prose, 0, 5)}},
		{5, 9, -9, []api.Seg{part(api.Prose, 0, 5)}},
		{5, math.MinInt, math.MaxInt, []api.Seg{part(api.Code, 0, 5)}},
		{5, math.MaxInt, math.MinInt, []api.Seg{part(api.Prose, 0, 5)}},
		{5, math.MinInt, 1, []api.Seg{part(api.Code, 0, 1), part(api.Prose, 1, 4)}},
		{5, 4, math.MaxInt, []api.Seg{part(api.Prose, 0, 4), part(api.Code, 4, 1)}},
		{0, 0, 0, nil},
		{0, -1, 1, nil},
		{0, math.MinInt, math.MaxInt, nil},
		{top, 0, top, []api.Seg{part(api.Code, 0, top)}},
		{top, 1, top - 1, []api.Seg{part(api.Prose, 0, 1), part(api.Code, 1, top-2), part(api.Prose, top-1, 1)}},
		{top, top - 1, top, []api.Seg{part(api.Prose, 0, top-1), part(api.Code, top-1, 1)}},
		{top, top - 1, top + 1, []api.Seg{part(api.Prose, 0, top-1), part(api.Code, top-1, 1)}},
		{top, top, top + 1, []api.Seg{part(api.Prose, 0, top)}},
		{top, 0, 1, []api.Seg{part(api.Code, 0, 1), part(api.Prose, 1, top-1)}},
	} {
		s := made(t, c.n)
		s.Set(api.Code, c.from, c.to)
		if got := s.Segs(); !slices.Equal(got, c.want) {
			t.Errorf("P10.1: New(%d), Set(Code, %d, %d): %v, not %v", c.n, c.from, c.to, got, c.want)
		}
	}
}

// asked are numbers about a sheet of few bytes, and those at the ends.
func asked(n int) []int {
	l := slices.Clone(edges)
	for i := -n - 2; i <= n+2; i++ {
		l = append(l, i)
	}
	slices.Sort(l)
	return slices.Compact(l)
}

func TestSetAnywhere(t *testing.T) {
	for n := range 6 {
		for _, from := range asked(n) {
			for _, to := range asked(n) {
				s, p := made(t, n), blank(n)
				s.Set(api.Quoted, from, to)
				p.set(api.Quoted, from, to)
				hold(t, s, p, "New(%d), Set(Quoted, %d, %d)", n, from, to)
			}
		}
	}
}

func TestSetAnywhereInAWholeFile(t *testing.T) {
	for _, n := range []int{top - 1, top} {
		for _, from := range edges {
			for _, to := range edges {
				s, p := made(t, n), blank(n)
				s.Set(api.Opaque, from, to)
				p.set(api.Opaque, from, to)
				hold(t, s, p, "New(%d), Set(Opaque, %d, %d)", n, from, to)
			}
		}
	}
}

func TestEveryLabelIsKept(t *testing.T) {
	s := made(t, 258)
	for l := range 256 {
		s.Set(api.Label(l), l+1, l+2)
	}
	for l := range 256 {
		if s.At(l+1) != api.Label(l) {
			t.Errorf("P10.1: a byte of label %d: %d", l, s.At(l+1))
		}
	}
	p := blank(258)
	for l := range 256 {
		p[l+1] = api.Label(l)
	}
	hold(t, s, p, "every label")
	for _, l := range all {
		s.Set(l, 0, 258)
		if got := s.Segs(); !slices.Equal(got, []api.Seg{part(l, 0, 258)}) {
			t.Errorf("P10.1: all of label %d: %v", l, got)
		}
	}
}

func TestTheLastSetHolds(t *testing.T) {
	const n = 4
	for a := range n + 1 {
		for b := range n + 1 {
			for c := range n + 1 {
				for d := range n + 1 {
					s, p := made(t, n), blank(n)
					for _, x := range []struct {
						l        api.Label
						from, to int
					}{{api.Code, a, b}, {api.Remark, c, d}, {api.Code, d, c}, {api.Prose, b, c}} {
						s.Set(x.l, x.from, x.to)
						p.set(x.l, x.from, x.to)
						hold(t, s, p, "Set %d..%d, %d..%d, then %d of %d..%d", a, b, c, d, x.l, x.from, x.to)
					}
				}
			}
		}
	}
}

func TestAt(t *testing.T) {
	for _, n := range []int{0, 1, 3, top} {
		s := made(t, n)
		s.Set(api.Raw, 0, 1)
		s.Set(api.Code, n-1, n)
		for _, i := range edges {
			var want api.Label
			switch {
			case i < 0 || i >= n:
			case i == n-1:
				want = api.Code
			case i == 0:
				want = api.Raw
			default:
				want = api.Prose
			}
			if got := s.At(i); got != want {
				t.Errorf("P10.1: New(%d): At(%d): %d, not %d", n, i, got, want)
			}
		}
	}
}

func TestSegs(t *testing.T) {
	for _, c := range []struct {
		l    []api.Label
		want []api.Seg
	}{
		{nil, nil},
		{[]api.Label{4}, []api.Seg{part(4, 0, 1)}},
		{[]api.Label{4, 4}, []api.Seg{part(4, 0, 2)}},
		{[]api.Label{4, 5}, []api.Seg{part(4, 0, 1), part(5, 1, 1)}},
		{[]api.Label{1, 2, 1, 2}, []api.Seg{part(1, 0, 1), part(2, 1, 1), part(1, 2, 1), part(2, 3, 1)}},
		{[]api.Label{1, 1, 2, 2, 2, 1}, []api.Seg{part(1, 0, 2), part(2, 2, 3), part(1, 5, 1)}},
		{[]api.Label{7, 6, 5, 4, 3, 2, 1}, []api.Seg{part(7, 0, 1), part(6, 1, 1), part(5, 2, 1), part(4, 3, 1), part(3, 4, 1), part(2, 5, 1), part(1, 6, 1)}},
		{[]api.Label{0, 0, 1, 0}, []api.Seg{part(0, 0, 2), part(1, 2, 1), part(0, 3, 1)}},
		{[]api.Label{255, 0}, []api.Seg{part(255, 0, 1), part(0, 1, 1)}},
	} {
		s, _ := written(t, c.l...)
		if got := s.Segs(); !slices.Equal(got, c.want) {
			t.Errorf("P10.1: of %v: Segs: %v, not %v", c.l, got, c.want)
		}
	}
}

// rows are all of n labels out of some.
func rows(n int, some ...api.Label) [][]api.Label {
	l := [][]api.Label{nil}
	for range n {
		var longer [][]api.Label
		for _, r := range l {
			for _, s := range some {
				longer = append(longer, append(slices.Clone(r), s))
			}
		}
		l = longer
	}
	return l
}

func TestSegsOfAllSmallSheets(t *testing.T) {
	for n := range 7 {
		for _, l := range rows(n, 0, api.Prose, api.Code, 255) {
			written(t, l...)
		}
	}
}

func TestSegsOfWholeFiles(t *testing.T) {
	for _, every := range []int{1, 2, 3, 7, 4096, top - 1} {
		s, p := made(t, top), blank(top)
		for i := 0; i < top; i += every {
			l := all[i/every%2]
			s.Set(l, i, i+every)
			for j := i; j < min(i+every, top); j++ {
				p[j] = l
			}
		}
		hold(t, s, p, "parts of %d bytes", every)
		if got, want := len(s.Segs()), (top+every-1)/every; got != want {
			t.Errorf("P10.1: parts of %d bytes: %d, not %d", every, got, want)
		}
	}
}

func TestLay(t *testing.T) {
	for _, c := range []struct {
		at    int
		other []api.Label
		want  paper
	}{
		{0, []api.Label{4, 5}, paper{4, 5, 3, 2, 3}},
		{0, []api.Label{4, 5, 6, 7, 4}, paper{4, 5, 6, 7, 4}},
		{0, []api.Label{4, 5, 6, 7, 4, 5}, paper{4, 5, 6, 7, 4}},
		{1, []api.Label{4, 5}, paper{1, 4, 5, 2, 3}},
		{3, []api.Label{4, 5}, paper{1, 2, 3, 4, 5}},
		{4, []api.Label{4, 5}, paper{1, 2, 3, 2, 4}},
		{5, []api.Label{4, 5}, paper{1, 2, 3, 2, 3}},
		{6, []api.Label{4, 5}, paper{1, 2, 3, 2, 3}},
		{-1, []api.Label{4, 5}, paper{5, 2, 3, 2, 3}},
		{-2, []api.Label{4, 5}, paper{1, 2, 3, 2, 3}},
		{-3, []api.Label{4, 5}, paper{1, 2, 3, 2, 3}},
		{-2, []api.Label{4, 5, 6, 7, 4, 5, 6, 7}, paper{6, 7, 4, 5, 6}},
		{-3, []api.Label{4, 5, 6, 7, 4, 5, 6}, paper{7, 4, 5, 6, 3}},
		{0, nil, paper{1, 2, 3, 2, 3}},
		{2, nil, paper{1, 2, 3, 2, 3}},
		{-1, nil, paper{1, 2, 3, 2, 3}},
		{0, []api.Label{0, 255}, paper{0, 255, 3, 2, 3}},
	} {
		s, _ := written(t, 1, 2, 3, 2, 3)
		o, p := written(t, c.other...)
		s.Lay(c.at, o)
		hold(t, s, c.want, "laid at %d: %v", c.at, c.other)
		hold(t, o, p, "R6: %v laid at %d", c.other, c.at)
	}
}

// striped are n labels, each of which differs from those beside it, none of them Prose.
func striped(n int) []api.Label {
	l := make([]api.Label, n)
	for i := range l {
		l[i] = api.Label(8 + i%13)
	}
	return l
}

func TestLayAnywhere(t *testing.T) {
	for n := range 6 {
		for m := range 6 {
			for _, at := range asked(max(n, m)) {
				s, p := made(t, n), blank(n)
				o, q := written(t, striped(m)...)
				s.Lay(at, o)
				p.lay(at, q)
				hold(t, s, p, "New(%d), Lay(%d, one of %d bytes)", n, at, m)
				hold(t, o, q, "R6: one of %d bytes, laid at %d", m, at)
			}
		}
	}
}

func TestLayOnItself(t *testing.T) {
	for n := range 9 {
		for _, at := range asked(n) {
			s, p := written(t, striped(n)...)
			s.Lay(at, s)
			p.lay(at, p)
			hold(t, s, p, "one of %d bytes, laid on itself at %d", n, at)
		}
	}
	s, _ := written(t, 1, 2, 3, 4)
	s.Lay(1, s)
	hold(t, s, paper{1, 1, 2, 3}, "laid on itself at 1")
	s.Lay(-2, s)
	hold(t, s, paper{2, 3, 2, 3}, "laid on itself at -2")
}

func TestLayOfWholeFiles(t *testing.T) {
	whole := striped(top)
	for _, at := range []int{-top, -top + 1, -top + 2, -top / 2, -1, 0, 1, top / 2, top - 2, top - 1, top} {
		for _, sizes := range [][2]int{{top, top}, {top, 1}, {1, top}, {top, 0}, {0, top}, {1, 1}} {
			s, p := made(t, sizes[0]), blank(sizes[0])
			o, q := made(t, sizes[1]), paper(slices.Clone(whole[:sizes[1]]))
			for i, l := range q {
				o.Set(l, i, i+1)
			}
			s.Lay(at, o)
			p.lay(at, q)
			hold(t, s, p, "New(%d), Lay(%d, one of %d bytes)", sizes[0], at, sizes[1])
			o.Lay(at, o)
			q.lay(at, q)
			hold(t, o, q, "one of %d bytes, laid on itself at %d", sizes[1], at)
		}
	}
}

func TestLayOnTheLastByteOfAWholeFile(t *testing.T) {
	s := made(t, top)
	o, _ := written(t, api.Code)
	s.Lay(top, o)
	if got := s.Segs(); !slices.Equal(got, []api.Seg{part(api.Prose, 0, top)}) {
		t.Errorf("P10.1: a byte laid behind the last one of 65536: %v", got)
	}
	s.Lay(top-1, o)
	if got := s.Segs(); !slices.Equal(got, []api.Seg{part(api.Prose, 0, top-1), part(api.Code, top-1, 1)}) {
		t.Errorf("P10.1: a byte laid on the last one of 65536: %v", got)
	}
}

func TestLayRefusesOtherPlaces(t *testing.T) {
	for _, n := range []int{0, 1, 9, top} {
		o := made(t, n)
		o.Set(api.Code, 0, n)
		for _, m := range []int{0, 1, 9, top} {
			for _, at := range []int{-65537, 65537, -65538, 65538, -2 * top, 2 * top, math.MinInt, math.MinInt + 1, math.MinInt + top, math.MaxInt, math.MaxInt - top, 1 << 32, -1 << 32} {
				s := made(t, m)
				s.Lay(at, o)
				o.Lay(at, o)
				if m > 0 && !slices.Equal(s.Segs(), []api.Seg{part(api.Prose, 0, m)}) || s.Len() != m {
					t.Errorf("P10.1: New(%d), Lay(%d, one of %d bytes): %v", m, at, n, s.Segs())
				}
			}
		}
		if n > 0 && !slices.Equal(o.Segs(), []api.Seg{part(api.Code, 0, n)}) || o.Len() != n {
			t.Errorf("P10.1: one of %d bytes, laid elsewhere: %v", n, o.Segs())
		}
	}
}

func TestNothingIsKeptOfAnother(t *testing.T) {
	for _, at := range []int{-1, 0, 1} {
		s, p := made(t, 3), blank(3)
		o, q := written(t, 4, 5, 6)
		s.Lay(at, o)
		p.lay(at, q)
		o.Set(api.Raw, 0, 3)
		hold(t, s, p, "R6: at %d: what was laid is changed behind it", at)
		s.Set(api.Opaque, 0, 3)
		hold(t, o, paper{7, 7, 7}, "R6: at %d: what was laid on is changed behind it", at)
	}
}

func TestPartsAreNewMemory(t *testing.T) {
	s, p := written(t, 1, 4, 4, 2)
	a, b := s.Segs(), s.Segs()
	for i := range a[:cap(a)] {
		a[:cap(a)][i] = part(99, -1, -1)
	}
	if !slices.Equal(b, p.segs()) {
		t.Errorf("R6: an answer is changed with another one: %v", b)
	}
	hold(t, s, p, "R6: an answer is changed behind the call")
	s.Set(api.Raw, 0, 4)
	if !slices.Equal(b, p.segs()) {
		t.Errorf("R6: an answer is changed with its sheet: %v", b)
	}
}

func TestAskingChangesNothing(t *testing.T) {
	s, p := written(t, 1, 4, 4, 2)
	for range 3 {
		for _, i := range asked(4) {
			s.At(i)
		}
		s.Len()
		s.Segs()
		hold(t, s, p, "R8: asked again")
	}
}

// step is a call that changes a sheet.
type step struct {
	lay      bool
	label    api.Label
	from, to int
	other    int
}

func (c step) on(s *Sheet, p paper, others []*Sheet, papers []paper) {
	if c.lay {
		s.Lay(c.from, others[c.other])
		p.lay(c.from, papers[c.other])
		return
	}
	s.Set(c.label, c.from, c.to)
	p.set(c.label, c.from, c.to)
}

func TestAllOrdersOfFewCalls(t *testing.T) {
	steps := []step{
		{label: api.Code, from: 0, to: 2}, {label: api.Remark, from: 1, to: 9}, {label: api.Prose, from: -1, to: 1}, {label: api.Raw, from: 2, to: 1},
		{lay: true, from: 0}, {lay: true, from: 1}, {lay: true, from: -1}, {lay: true, from: 2, other: 1}, {lay: true, from: 0, other: 1},
	}
	o, q := written(t, 5, 6)
	for _, a := range steps {
		for _, b := range steps {
			for _, c := range steps {
				for _, d := range steps {
					s, p := made(t, 3), blank(3)
					others, papers := []*Sheet{o, s}, []paper{q, p}
					for _, x := range []step{a, b, c, d} {
						x.on(s, p, others, papers)
					}
					hold(t, s, p, "%v, %v, %v, %v", a, b, c, d)
				}
			}
		}
	}
	hold(t, o, q, "R6: laid often")
}

// anySteps makes calls in any order on some sheets, and holds all of them against what they must be.
func anySteps(t *testing.T, r *rand.Rand, sizes []int, calls int) {
	t.Helper()
	var sheets []*Sheet
	var papers []paper
	for _, n := range sizes {
		sheets, papers = append(sheets, made(t, n)), append(papers, blank(n))
	}
	room := slices.Max(sizes) + 3
	for range calls {
		i := r.Intn(len(sizes))
		c := step{lay: r.Intn(3) == 0, label: api.Label(r.Intn(9)), from: r.Intn(2*room) - room, to: r.Intn(2*room) - 3, other: r.Intn(len(sizes))}
		if r.Intn(20) == 0 {
			c.from = edges[r.Intn(len(edges))]
		}
		if r.Intn(20) == 0 {
			c.to = edges[r.Intn(len(edges))]
		}
		c.on(sheets[i], papers[i], sheets, papers)
		hold(t, sheets[i], papers[i], "sheets of %v bytes: %+v on %d", sizes, c, i)
	}
	for i, s := range sheets {
		hold(t, s, papers[i], "sheets of %v bytes: %d in the end", sizes, i)
	}
}

func TestCallsInAnyOrder(t *testing.T) {
	r := rand.New(rand.NewSource(10))
	for range 400 {
		sizes := make([]int, 1+r.Intn(4))
		for i := range sizes {
			sizes[i] = r.Intn(24)
		}
		anySteps(t, r, sizes, 60)
	}
	anySteps(t, r, []int{top, top - 1, 1000, 0}, 60)
}

func TestNilSheet(t *testing.T) {
	var none *Sheet
	o, p := written(t, 4, 5, 6)
	for _, a := range edges {
		for _, b := range edges {
			none.Set(api.Code, a, b)
		}
		none.Lay(a, o)
		none.Lay(a, nil)
		none.Lay(a, none)
		o.Lay(a, nil)
		if got := none.At(a); got != 0 {
			t.Errorf("R7: At(%d) of a nil sheet: %d", a, got)
		}
	}
	if n, l := none.Len(), none.Segs(); n != 0 || len(l) != 0 {
		t.Errorf("R7: Len, Segs of a nil sheet: %d, %v", n, l)
	}
	hold(t, o, p, "P10.1: a nil sheet laid on it, and it on a nil one")
}

func TestSheetThatNewDidNotMake(t *testing.T) {
	s := new(Sheet)
	o, p := written(t, 4, 5, 6)
	for _, a := range edges {
		s.Set(api.Code, a, math.MaxInt)
		s.Lay(a, o)
		s.Lay(a, s)
		o.Lay(a, s)
		if s.At(a) != 0 {
			t.Errorf("P1: At(%d) of an empty sheet: %d", a, s.At(a))
		}
	}
	hold(t, s, nil, "P1: a sheet that New did not make")
	hold(t, o, p, "P1: a sheet that New did not make, laid on it")
}

func TestOneFunctionLaysAllKinds(t *testing.T) {
	texts := []string{"a", "b", "c"}
	lay(texts, "x", 1, 9)
	if !slices.Equal(texts, []string{"a", "x", "x"}) {
		t.Errorf("Ways: texts: %q", texts)
	}
	lay([]int(nil), 1, math.MinInt, math.MaxInt)
}
