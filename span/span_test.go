package span

import (
	"math"
	"math/big"
	"slices"
	"testing"

	"redpen/api"
)

const top = api.MaxFile

func sp(at, length int) api.Span { return api.Span{At: at, Len: length} }

// unsound are spans that no call but Check may take.
var unsound = []api.Span{
	sp(-1, 0), sp(0, -1), sp(-1, -1), sp(-1, 1), sp(5, -5), sp(-5, 10),
	sp(top+1, 0), sp(0, top+1), sp(top+1, top+1),
	sp(math.MaxInt, 0), sp(0, math.MaxInt), sp(math.MaxInt, 1), sp(1, math.MaxInt),
	sp(math.MaxInt, math.MaxInt), sp(math.MinInt, 0), sp(0, math.MinInt),
	sp(math.MinInt, math.MinInt), sp(math.MinInt, math.MaxInt), sp(math.MaxInt, math.MinInt),
}

// edges are numbers at which an answer may turn.
var edges = []int{
	math.MinInt, math.MinInt + 1, -top, -1, 0, 1, 2, 3, 5, top - 1, top, top + 1,
	2*top - 1, 2 * top, 2*top + 1, math.MaxInt/2 + 1, math.MaxInt - 1, math.MaxInt,
}

func edgeSpans() []api.Span {
	var l []api.Span
	for _, at := range edges {
		for _, length := range edges {
			l = append(l, sp(at, length))
		}
	}
	return l
}

// smallSpans are all those of few bytes, and some about the limit.
func smallSpans() []api.Span {
	l := slices.Clone(unsound)
	for at := range 6 {
		for length := range 6 {
			l = append(l, sp(at, length))
		}
	}
	return append(l, sp(0, top), sp(1, top), sp(top-1, 1), sp(top, 0), sp(top, 1), sp(top, top))
}

func isSound(s api.Span) bool {
	return 0 <= s.At && s.At <= 65536 && 0 <= s.Len && s.Len <= 65536
}

func TestCheck(t *testing.T) {
	for _, c := range []struct {
		s    api.Span
		n    int
		want api.Errno
	}{
		{sp(2, 5), 7, api.OK},
		{sp(2, 5), 8, api.OK},
		{sp(2, 5), 6, api.ErrRange},
		{sp(0, 0), 0, api.OK},
		{sp(7, 0), 7, api.OK},
		{sp(8, 0), 7, api.ErrRange},
		{sp(0, 7), 7, api.OK},
		{sp(0, 8), 7, api.ErrRange},
		{sp(-1, 3), 7, api.ErrRange},
		{sp(3, -1), 7, api.ErrRange},
		{sp(0, 0), -1, api.ErrRange},
		{sp(-1, 0), -1, api.ErrRange},
		{sp(0, -1), -1, api.ErrRange},
		{sp(top, top), 2 * top, api.OK},
		{sp(top, top), 2*top - 1, api.ErrRange},
		{sp(top+1, top+1), 2*top + 2, api.OK},
		{sp(math.MaxInt, 0), math.MaxInt, api.OK},
		{sp(0, math.MaxInt), math.MaxInt, api.OK},
		{sp(math.MaxInt, 1), math.MaxInt, api.ErrRange},
		{sp(1, math.MaxInt), math.MaxInt, api.ErrRange},
		{sp(math.MaxInt, math.MaxInt), math.MaxInt, api.ErrRange},
		{sp(math.MaxInt, math.MaxInt), 0, api.ErrRange},
		{sp(0, 0), math.MinInt, api.ErrRange},
		{sp(math.MaxInt, math.MaxInt), math.MinInt, api.ErrRange},
	} {
		if got := Check(c.s, c.n); got != c.want {
			t.Errorf("P1.1: Check(%v, %d): %d, want %d", c.s, c.n, got, c.want)
		}
	}
}

func TestCheckAtAllEdges(t *testing.T) {
	for _, s := range edgeSpans() {
		sum := new(big.Int).Add(big.NewInt(int64(s.At)), big.NewInt(int64(s.Len)))
		for _, n := range edges {
			want := api.OK
			if s.At < 0 || s.Len < 0 || sum.Cmp(big.NewInt(int64(n))) > 0 {
				want = api.ErrRange
			}
			if got := Check(s, n); got != want {
				t.Errorf("P1.1: Check(%v, %d): %d, want %d", s, n, got, want)
			}
		}
	}
}

func TestEnd(t *testing.T) {
	for _, c := range []struct {
		s    api.Span
		want int
	}{
		{sp(2, 5), 7}, {sp(0, 0), 0}, {sp(3, 0), 3}, {sp(0, 3), 3},
		{sp(top, 0), top}, {sp(0, top), top}, {sp(top, top), 2 * top},
	} {
		if got, e := End(c.s); got != c.want || e != api.OK {
			t.Errorf("P1.1: End(%v): %d, %d, want %d", c.s, got, e, c.want)
		}
	}
	for _, s := range unsound {
		if got, e := End(s); got != 0 || e != api.ErrRange {
			t.Errorf("P1.1, R3: End(%v): %d, %d, want 0, ErrRange", s, got, e)
		}
	}
}

func TestEndAtAllEdges(t *testing.T) {
	for _, s := range edgeSpans() {
		want, code := 0, api.ErrRange
		if isSound(s) {
			want, code = s.At+s.Len, api.OK
		}
		if got, e := End(s); got != want || e != code {
			t.Errorf("P1.1: End(%v): %d, %d, want %d, %d", s, got, e, want, code)
		}
	}
}

func TestHas(t *testing.T) {
	for _, c := range []struct {
		s    api.Span
		at   int
		want bool
	}{
		{sp(2, 5), 1, false},
		{sp(2, 5), 2, true},
		{sp(2, 5), 6, true},
		{sp(2, 5), 7, false},
		{sp(2, 0), 2, false},
		{sp(0, 0), 0, false},
		{sp(0, 1), -1, false},
		{sp(0, 1), 0, true},
		{sp(0, top), top - 1, true},
		{sp(0, top), top, false},
		{sp(top, 0), top, false},
		{sp(top, top), top, true},
		{sp(top, top), 2*top - 1, true},
		{sp(top, top), 2 * top, false},
		{sp(2, 5), math.MinInt, false},
		{sp(2, 5), math.MaxInt, false},
	} {
		if got := Has(c.s, c.at); got != c.want {
			t.Errorf("P1.1: Has(%v, %d): %t", c.s, c.at, got)
		}
	}
	for _, s := range unsound {
		for _, at := range edges {
			if Has(s, at) {
				t.Errorf("P1.1: Has(%v, %d): true of a span that isn't sound", s, at)
			}
		}
	}
}

func TestMeet(t *testing.T) {
	for _, c := range []struct {
		a, b, want api.Span
		ok         bool
	}{
		{sp(2, 5), sp(4, 9), sp(4, 3), true},
		{sp(2, 5), sp(2, 5), sp(2, 5), true},
		{sp(0, 9), sp(3, 2), sp(3, 2), true},
		{sp(0, 3), sp(2, 1), sp(2, 1), true},
		{sp(0, 3), sp(3, 3), sp(0, 0), false},
		{sp(0, 3), sp(5, 3), sp(0, 0), false},
		{sp(0, 9), sp(4, 0), sp(0, 0), false},
		{sp(4, 0), sp(4, 0), sp(0, 0), false},
		{sp(0, 0), sp(0, 5), sp(0, 0), false},
		{sp(0, top), sp(top-1, top), sp(top-1, 1), true},
		{sp(0, top), sp(top, top), sp(0, 0), false},
		{sp(top, top), sp(top, top), sp(top, top), true},
	} {
		for _, p := range [][2]api.Span{{c.a, c.b}, {c.b, c.a}} {
			if got, ok := Meet(p[0], p[1]); got != c.want || ok != c.ok {
				t.Errorf("P1.1: Meet(%v, %v): %v, %t, want %v, %t", p[0], p[1], got, ok, c.want, c.ok)
			}
		}
	}
}

func TestMeetIsWhatBothHave(t *testing.T) {
	l := smallSpans()
	for _, a := range l {
		for _, b := range l {
			got, ok := Meet(a, b)
			for _, at := range []int{-1, 0, 1, 2, 3, 4, 5, 6, 7, 8, 9, 10, top - 1, top, top + 1, 2*top - 1, 2 * top} {
				if Has(got, at) != (Has(a, at) && Has(b, at)) {
					t.Fatalf("P1.1: Meet(%v, %v): %v, wrong of byte %d", a, b, got, at)
				}
			}
			if ok != (got.Len > 0) || !ok && got != (api.Span{}) {
				t.Errorf("P1.1, R3: Meet(%v, %v): %v, %t", a, b, got, ok)
			}
		}
	}
}

func TestJoin(t *testing.T) {
	for _, c := range []struct{ a, b, want api.Span }{
		{sp(2, 5), sp(4, 9), sp(2, 11)},
		{sp(2, 5), sp(2, 5), sp(2, 5)},
		{sp(0, 3), sp(3, 3), sp(0, 6)},
		{sp(0, 3), sp(7, 2), sp(0, 9)},
		{sp(0, 9), sp(3, 2), sp(0, 9)},
		{sp(4, 2), sp(9, 0), sp(4, 5)},
		{sp(4, 2), sp(1, 0), sp(1, 5)},
		{sp(4, 2), sp(5, 0), sp(4, 2)},
		{sp(3, 0), sp(3, 0), sp(3, 0)},
		{sp(3, 0), sp(8, 0), sp(3, 5)},
		{sp(0, 0), sp(top, top), sp(0, 2*top)},
		{sp(0, top), sp(top, 0), sp(0, top)},
		{sp(top, 0), sp(top, top), sp(top, top)},
	} {
		for _, p := range [][2]api.Span{{c.a, c.b}, {c.b, c.a}} {
			if got, e := Join(p[0], p[1]); got != c.want || e != api.OK {
				t.Errorf("P1.1: Join(%v, %v): %v, %d, want %v", p[0], p[1], got, e, c.want)
			}
		}
	}
}

func TestMeetAndJoinRefuseUnsoundSpans(t *testing.T) {
	for _, s := range unsound {
		for _, o := range append(slices.Clone(unsound), sp(0, 0), sp(2, 5), sp(0, top), sp(top, top)) {
			for _, p := range [][2]api.Span{{s, o}, {o, s}} {
				if got, ok := Meet(p[0], p[1]); ok || got != (api.Span{}) {
					t.Errorf("P1.1, R3: Meet(%v, %v): %v, %t", p[0], p[1], got, ok)
				}
				if got, e := Join(p[0], p[1]); e != api.ErrRange || got != (api.Span{}) {
					t.Errorf("P1.1, R3: Join(%v, %v): %v, %d", p[0], p[1], got, e)
				}
			}
		}
	}
}

func TestApart(t *testing.T) {
	for _, c := range []struct {
		l    []api.Span
		want bool
	}{
		{nil, true},
		{[]api.Span{}, true},
		{[]api.Span{sp(3, 2)}, true},
		{[]api.Span{sp(0, 0)}, true},
		{[]api.Span{sp(0, 2), sp(2, 3)}, true},
		{[]api.Span{sp(0, 2), sp(3, 2)}, true},
		{[]api.Span{sp(0, 3), sp(2, 2)}, false},
		{[]api.Span{sp(3, 2), sp(0, 2)}, false},
		{[]api.Span{sp(1, 1), sp(1, 1)}, false},
		{[]api.Span{sp(1, 0), sp(1, 0), sp(1, 2), sp(3, 0)}, true},
		{[]api.Span{sp(1, 2), sp(2, 0)}, false},
		{[]api.Span{sp(1, 2), sp(1, 0)}, false},
		{[]api.Span{sp(5, 0), sp(4, 0)}, false},
		{[]api.Span{sp(0, 5), sp(5, 1), sp(3, 1)}, false},
		{[]api.Span{sp(0, 2), sp(4, 0), sp(2, 1)}, false},
		{[]api.Span{sp(0, top), sp(top, top)}, true},
		{[]api.Span{sp(1, top), sp(top, 0)}, false},
		{[]api.Span{sp(top, 0), sp(top, 0)}, true},
	} {
		if got := Apart(c.l); got != c.want {
			t.Errorf("P1.1: Apart(%v): %t", c.l, got)
		}
	}
}

func TestCover(t *testing.T) {
	for _, c := range []struct {
		l    []api.Span
		n    int
		want bool
	}{
		{nil, 0, true},
		{[]api.Span{}, 0, true},
		{nil, 1, false},
		{nil, -1, false},
		{nil, math.MinInt, false},
		{[]api.Span{sp(0, 5)}, 5, true},
		{[]api.Span{sp(0, 5)}, 4, false},
		{[]api.Span{sp(0, 5)}, 6, false},
		{[]api.Span{sp(0, 5)}, -5, false},
		{[]api.Span{sp(1, 4)}, 5, false},
		{[]api.Span{sp(0, 2), sp(2, 3)}, 5, true},
		{[]api.Span{sp(0, 2), sp(3, 2)}, 5, false},
		{[]api.Span{sp(0, 3), sp(2, 3)}, 5, false},
		{[]api.Span{sp(2, 3), sp(0, 2)}, 5, false},
		{[]api.Span{sp(2, 3), sp(0, 2)}, 2, false},
		{[]api.Span{sp(0, 0)}, 0, false},
		{[]api.Span{sp(0, 0), sp(0, 5)}, 5, false},
		{[]api.Span{sp(0, 2), sp(2, 0), sp(2, 3)}, 5, false},
		{[]api.Span{sp(0, 5), sp(5, 0)}, 5, false},
		{[]api.Span{sp(0, top)}, top, true},
		{[]api.Span{sp(0, top+1)}, top + 1, false},
		{[]api.Span{sp(0, top), sp(top, 1)}, top + 1, true},
		{[]api.Span{sp(0, top), sp(top, top)}, 2 * top, true},
		{[]api.Span{sp(0, top), sp(top, top), sp(2*top, 1)}, 2*top + 1, false},
	} {
		if got := Cover(c.l, c.n); got != c.want {
			t.Errorf("P1.1: Cover(%v, %d): %t", c.l, c.n, got)
		}
	}
}

func TestListsWithUnsoundSpans(t *testing.T) {
	for _, s := range unsound {
		// s.At+s.Len may wrap round here: to no answer but false.
		for _, l := range [][]api.Span{{s}, {sp(0, 1), s}, {s, sp(0, 1)}, {sp(0, 1), s, sp(1, 1)}, {s, sp(top, 1)}} {
			if Apart(l) {
				t.Errorf("P1.1: Apart(%v): true", l)
			}
			for _, n := range append(slices.Clone(edges), s.At+s.Len) {
				if Cover(l, n) {
					t.Errorf("P1.1: Cover(%v, %d): true", l, n)
				}
			}
		}
	}
}

// asWritten is the sentence of P1.1 about Apart and Cover, part by part.
func asWritten(l []api.Span, n int) (apart, cover bool) {
	apart, cover = true, true
	for i, s := range l {
		apart = apart && isSound(s) && (i == 0 || s.At >= l[i-1].At+l[i-1].Len)
		begin := 0
		if i > 0 {
			begin = l[i-1].At + l[i-1].Len
		}
		cover = cover && isSound(s) && s.Len != 0 && s.At == begin
	}
	end := 0
	if len(l) > 0 {
		end = l[len(l)-1].At + l[len(l)-1].Len
	}
	return apart, cover && end == n
}

func TestListsOfThree(t *testing.T) {
	var all []api.Span
	for at := -1; at < 4; at++ {
		for length := -1; length < 3; length++ {
			all = append(all, sp(at, length))
		}
	}
	for _, a := range all {
		for _, b := range all {
			for _, c := range all {
				for n := -1; n < 7; n++ {
					l := []api.Span{a, b, c}
					apart, cover := asWritten(l, n)
					if Apart(l) != apart || Cover(l, n) != cover {
						t.Fatalf("P1.1: Apart, Cover(%v, %d): want %t, %t", l, n, apart, cover)
					}
				}
			}
		}
	}
}

func TestListsStayAsTheyAre(t *testing.T) {
	whole := []api.Span{sp(0, 2), sp(2, 3), sp(9, 9), sp(-1, -1)}
	kept := slices.Clone(whole)
	for n := range len(whole) + 1 {
		for range 2 {
			l := whole[:n]
			apart, cover := asWritten(kept[:n], 5)
			if Apart(l) != apart || Cover(l, 5) != cover {
				t.Errorf("R6, R8: Apart, Cover of %v: the spare room, or a call ahead, is to be seen", l)
			}
		}
	}
	if !slices.Equal(whole, kept) {
		t.Errorf("R6: %v became %v", kept, whole)
	}
}

func TestAllCallsAtAllEdges(t *testing.T) {
	l := edgeSpans()
	for _, a := range l {
		for _, b := range l {
			_, ok := Meet(a, b)
			_, e := Join(a, b)
			both := isSound(a) && isSound(b)
			if ok && !both || (e == api.OK) != both {
				t.Fatalf("P1, P1.1: Meet, Join(%v, %v): %t, %d", a, b, ok, e)
			}
			if Apart([]api.Span{a, b}) && !both || Cover([]api.Span{a, b}, b.At+b.Len) && !both {
				t.Fatalf("P1, P1.1: Apart, Cover(%v, %v): true", a, b)
			}
		}
	}
}
