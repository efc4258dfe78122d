package edits

import (
	"bytes"
	"fmt"
	"math"
	"math/big"
	"math/rand"
	"slices"
	"strings"
	"testing"
	"unsafe"

	"redpen/api"
)

func edit(at, n int, text string) api.Edit {
	return api.Edit{Span: api.Span{At: at, Len: n}, Text: text}
}

// told is a list of edits in few signs: {1 2}X {4 0}!
func told(l []api.Edit) string {
	var s []string
	for _, e := range l {
		s = append(s, fmt.Sprintf("%v%.40q", e.Span, e.Text))
	}
	return strings.Join(s, " ")
}

// seats is a row of seats in which edits sit: one a place of the bytes (the even ones), one a byte (those between). A span sits on its bytes and the places between them, an empty one on its place.
type seats struct {
	b   []byte
	row []*api.Edit
}

// inside says whether a span is of n bytes, with numbers of any size.
func inside(s api.Span, n int) bool {
	end := new(big.Int).Add(big.NewInt(int64(s.At)), big.NewInt(int64(s.Len)))
	return s.At >= 0 && s.Len >= 0 && end.Cmp(big.NewInt(int64(n))) <= 0
}

// seated lays edits on their seats, or tells why it can't.
func seated(b []byte, l []api.Edit) (seats, api.Errno) {
	s := seats{b, make([]*api.Edit, 2*len(b)+1)}
	if len(l) > 65536 {
		return s, api.ErrMany
	}
	for _, e := range l {
		if !inside(e.Span, len(b)) {
			return s, api.ErrRange
		}
	}
	for _, e := range l {
		from, to := 2*e.Span.At, 2*e.Span.At+1
		if e.Span.Len > 0 {
			from, to = from+1, from+2*e.Span.Len
		}
		if string(b[from/2:to/2]) == e.Text {
			continue
		}
		for i := from; i < to; i++ {
			if s.row[i] != nil {
				return s, api.ErrOrder
			}
			s.row[i] = &e
		}
	}
	return s, api.OK
}

// first says whether an edit's first seat is the i-th.
func (s seats) first(i int) bool {
	return s.row[i] != nil && (i == 0 || s.row[i-1] != s.row[i])
}

// tidy, done, back and place go from seat to seat.
func (s seats) tidy() []api.Edit {
	var l []api.Edit
	for i := range s.row {
		if s.first(i) {
			l = append(l, *s.row[i])
		}
	}
	return l
}

func (s seats) write(i int, to *bytes.Buffer) {
	if s.first(i) {
		to.WriteString(s.row[i].Text)
	}
	if s.row[i] == nil && i%2 == 1 {
		to.WriteByte(s.b[i/2])
	}
}

func (s seats) done() []byte {
	var to bytes.Buffer
	for i := range s.row {
		s.write(i, &to)
	}
	return to.Bytes()
}

func (s seats) back() []api.Edit {
	var l []api.Edit
	var to bytes.Buffer
	for i, e := range s.row {
		if s.first(i) {
			l = append(l, edit(to.Len(), len(e.Text), string(s.b[e.Span.At:][:e.Span.Len])))
		}
		s.write(i, &to)
	}
	return l
}

// places are where each place stands then.
func (s seats) places() []int {
	var l []int
	var to bytes.Buffer
	begins := 0
	for i, e := range s.row {
		if s.first(i) {
			begins = to.Len()
		}
		s.write(i, &to)
		switch {
		case i%2 == 1:
		case e != nil && e.Span.Len > 0:
			l = append(l, begins)
		default:
			l = append(l, to.Len())
		}
	}
	return l
}

// wrongPlaces are no places of n bytes.
func wrongPlaces(n int) []int {
	return []int{-1, n + 1, -2, n + 2, -n - 1, 2*n + 1, math.MinInt32, math.MaxInt32, math.MinInt, math.MinInt + 1, math.MaxInt - 1, math.MaxInt}
}

// hold holds all four calls against the seats.
func hold(t *testing.T, text string, l []api.Edit) {
	t.Helper()
	b := []byte(text)
	s, want := seated(b, l)
	tidy, e1 := Tidy(b, l)
	done, e2 := Apply(b, l...)
	back, e3 := Back(b, l)
	if e1 != want || e2 != want || e3 != want {
		t.Fatalf("P18.1, P18.2: of %.50q, %.300s: %d, %d, %d, not %d", text, told(l), e1, e2, e3, want)
	}
	if want != api.OK {
		holdNothing(t, text, l, want)
		return
	}
	if !slices.Equal(tidy, s.tidy()) {
		t.Fatalf("P18.1: Tidy(%.50q, %.300s): %.300s, not %.300s", text, told(l), told(tidy), told(s.tidy()))
	}
	if !bytes.Equal(done, s.done()) {
		t.Fatalf("P18.2: Apply(%.50q, %.300s): %.300q, not %.300q", text, told(l), done, s.done())
	}
	if !slices.Equal(back, s.back()) {
		t.Fatalf("P18.2: Back(%.50q, %.300s): %.300s, not %.300s", text, told(l), told(back), told(s.back()))
	}
	holdPlaces(t, text, l, s.places())
	holdUndone(t, text, tidy, done, back)
}

// holdNothing: beside an error stands nothing, also of a place that isn't there.
func holdNothing(t *testing.T, text string, l []api.Edit, want api.Errno) {
	t.Helper()
	b := []byte(text)
	tidy, _ := Tidy(b, l)
	done, _ := Apply(b, l...)
	back, _ := Back(b, l)
	if tidy != nil || done != nil || back != nil {
		t.Fatalf("R3: of %.50q, %.300s: %v, %v, %v", text, told(l), tidy, done, back)
	}
	for _, at := range append(wrongPlaces(len(b)), 0, len(b)) {
		if n, e := Place(b, l, at); n != 0 || e != want {
			t.Fatalf("P18.2, R2: Place(%.50q, %.300s, %d): %d, %d, not %d", text, told(l), at, n, e, want)
		}
	}
}

func holdPlaces(t *testing.T, text string, l []api.Edit, want []int) {
	t.Helper()
	b := []byte(text)
	for at := 0; at <= len(b); at += max(1, len(b)/7) {
		if n, e := Place(b, l, at); n != want[at] || e != api.OK {
			t.Fatalf("P18.2: Place(%.50q, %.300s, %d): %d, %d, not %d", text, told(l), at, n, e, want[at])
		}
	}
	for i, at := range wrongPlaces(len(b)) {
		if len(b) > 1000 && i > 1 {
			return
		}
		if n, e := Place(b, l, at); n != 0 || e != api.ErrRange {
			t.Fatalf("P18.2: Place(%.50q, %.300s, %d): %d, %d", text, told(l), at, n, e)
		}
	}
}

// holdUndone: what Back answers undoes what Apply did, and is undone by what did it; but of spans side by side that are left out, all are one span there.
func holdUndone(t *testing.T, text string, tidy []api.Edit, done []byte, back []api.Edit) {
	t.Helper()
	again, e := Apply(done, back...)
	twice := false
	for i, x := range back {
		twice = twice || i > 0 && x.Span == back[i-1].Span
	}
	if twice {
		if e != api.ErrOrder {
			t.Fatalf("P18.1: Apply(%.50q, %.300s): %d", done, told(back), e)
		}
		return
	}
	if e != api.OK || string(again) != text {
		t.Fatalf("P18.2: Apply(%.50q, %.300s): %.300q, %d, not %.300q", done, told(back), again, e, text)
	}
	if l, e := Back(done, back); e != api.OK || !slices.Equal(l, tidy) {
		t.Fatalf("P18.2: Back(%.50q, %.300s): %.300s, %d, not %.300s", done, told(back), told(l), e, told(tidy))
	}
}

func TestExample(t *testing.T) {
	b := []byte("abcd")
	e := edit(1, 2, "X")
	if x, err := Apply(b, e); string(x) != "aXd" || err != api.OK {
		t.Errorf("P18.2: Apply: %q, %d", x, err)
	}
	if n, err := Place(b, []api.Edit{e}, 3); n != 2 || err != api.OK {
		t.Errorf("P18.2: Place: %d, %d", n, err)
	}
}

// README's example.
func TestReadme(t *testing.T) {
	b := []byte("teh cat")
	l := []api.Edit{edit(7, 0, "s"), edit(0, 3, "the"), edit(4, 1, "c")}
	tidy, e := Tidy(b, l)
	if !slices.Equal(tidy, []api.Edit{edit(0, 3, "the"), edit(7, 0, "s")}) || e != api.OK {
		t.Errorf("P18.1: %s, %d", told(tidy), e)
	}
	done, e := Apply(b, l...)
	if string(done) != "the cats" || e != api.OK {
		t.Errorf("P18.2: %q, %d", done, e)
	}
	back, e := Back(b, l)
	if !slices.Equal(back, []api.Edit{edit(0, 3, "teh"), edit(7, 1, "")}) || e != api.OK {
		t.Errorf("P18.2: %s, %d", told(back), e)
	}
	n, e := Place(b, l, 7)
	if n != 8 || e != api.OK {
		t.Errorf("P18.2: %d, %d", n, e)
	}
}

func TestTidy(t *testing.T) {
	many := func(n int, e api.Edit) []api.Edit { return slices.Repeat([]api.Edit{e}, n) }
	for _, c := range []struct {
		text string
		l    []api.Edit
		want []api.Edit
		err  api.Errno
	}{
		{"", nil, nil, api.OK},
		{"abcd", nil, nil, api.OK},
		{"abcd", []api.Edit{}, nil, api.OK},
		{"abcd", []api.Edit{edit(1, 2, "X")}, []api.Edit{edit(1, 2, "X")}, api.OK},
		// What changes nothing.
		{"abcd", []api.Edit{edit(1, 2, "bc")}, nil, api.OK},
		{"abcd", []api.Edit{edit(2, 0, "")}, nil, api.OK},
		{"", []api.Edit{edit(0, 0, "")}, nil, api.OK},
		{"abcd", []api.Edit{edit(0, 4, "abcd"), edit(1, 2, "bc"), edit(1, 2, "bc"), edit(4, 0, "")}, nil, api.OK},
		{"abcd", []api.Edit{edit(0, 4, "abcd"), edit(1, 2, "X"), edit(1, 2, "bc"), edit(2, 0, "")}, []api.Edit{edit(1, 2, "X")}, api.OK},
		{"a\xffb", []api.Edit{edit(1, 1, "\xff")}, nil, api.OK},
		{"a\xffb", []api.Edit{edit(1, 1, "\ufffd")}, []api.Edit{edit(1, 1, "\ufffd")}, api.OK},
		{"abcd", []api.Edit{edit(1, 2, "BC")}, []api.Edit{edit(1, 2, "BC")}, api.OK},
		{"abcd", []api.Edit{edit(1, 2, "bcd")}, []api.Edit{edit(1, 2, "bcd")}, api.OK},
		{"abcd", []api.Edit{edit(1, 2, "b")}, []api.Edit{edit(1, 2, "b")}, api.OK},
		{"abcd", []api.Edit{edit(1, 2, "")}, []api.Edit{edit(1, 2, "")}, api.OK},
		// By At, then by Len.
		{"abcd", []api.Edit{edit(3, 1, "3"), edit(0, 1, "0"), edit(2, 1, "2"), edit(1, 1, "1")}, []api.Edit{edit(0, 1, "0"), edit(1, 1, "1"), edit(2, 1, "2"), edit(3, 1, "3")}, api.OK},
		{"abcd", []api.Edit{edit(1, 2, "long"), edit(1, 0, "z")}, []api.Edit{edit(1, 0, "z"), edit(1, 2, "long")}, api.OK},
		{"abcd", []api.Edit{edit(4, 0, "!"), edit(0, 4, ""), edit(0, 0, "?")}, []api.Edit{edit(0, 0, "?"), edit(0, 4, ""), edit(4, 0, "!")}, api.OK},
		{"abcd", []api.Edit{edit(2, 1, ""), edit(1, 1, ""), edit(2, 0, "x"), edit(3, 0, "y"), edit(1, 0, "z")}, []api.Edit{edit(1, 0, "z"), edit(1, 1, ""), edit(2, 0, "x"), edit(2, 1, ""), edit(3, 0, "y")}, api.OK},
		// Order.
		{"abcd", []api.Edit{edit(1, 2, "X"), edit(2, 1, "")}, nil, api.ErrOrder},
		{"abcd", []api.Edit{edit(2, 1, ""), edit(1, 2, "X")}, nil, api.ErrOrder},
		{"abcd", []api.Edit{edit(1, 2, "X"), edit(3, 1, "")}, []api.Edit{edit(1, 2, "X"), edit(3, 1, "")}, api.OK},
		{"abcd", []api.Edit{edit(1, 2, "X"), edit(2, 0, "y")}, nil, api.ErrOrder},
		{"abcd", []api.Edit{edit(1, 2, "X"), edit(3, 0, "y")}, []api.Edit{edit(1, 2, "X"), edit(3, 0, "y")}, api.OK},
		{"abcd", []api.Edit{edit(1, 2, "X"), edit(1, 0, "y")}, []api.Edit{edit(1, 0, "y"), edit(1, 2, "X")}, api.OK},
		{"abcd", []api.Edit{edit(1, 2, "X"), edit(1, 1, "y")}, nil, api.ErrOrder},
		{"abcd", []api.Edit{edit(1, 2, "X"), edit(1, 2, "X")}, nil, api.ErrOrder},
		{"abcd", []api.Edit{edit(1, 2, "X"), edit(1, 2, "Y")}, nil, api.ErrOrder},
		{"abcd", []api.Edit{edit(2, 0, "X"), edit(2, 0, "X")}, nil, api.ErrOrder},
		{"abcd", []api.Edit{edit(2, 0, "X"), edit(2, 0, "Y")}, nil, api.ErrOrder},
		{"abcd", []api.Edit{edit(2, 0, "X"), edit(2, 1, "Y"), edit(2, 0, "Z")}, nil, api.ErrOrder},
		{"", []api.Edit{edit(0, 0, "X"), edit(0, 0, "Y")}, nil, api.ErrOrder},
		{"", []api.Edit{edit(0, 0, "X"), edit(0, 0, "")}, []api.Edit{edit(0, 0, "X")}, api.OK},
		{"abcd", []api.Edit{edit(0, 4, "X"), edit(1, 0, "y"), edit(3, 1, "z")}, nil, api.ErrOrder},
		{"abcd", []api.Edit{edit(1, 2, "X"), edit(0, 4, "abcd"), edit(2, 2, "cd"), edit(2, 0, "")}, []api.Edit{edit(1, 2, "X")}, api.OK},
		{"aaaa", []api.Edit{edit(0, 2, "aa"), edit(1, 1, "aa"), edit(1, 2, "aa")}, []api.Edit{edit(1, 1, "aa")}, api.OK},
		// Spans that aren't of the bytes, also of what changes nothing, also ahead of wrong order.
		{"abcd", []api.Edit{edit(4, 0, "")}, nil, api.OK},
		{"abcd", []api.Edit{edit(5, 0, "")}, nil, api.ErrRange},
		{"abcd", []api.Edit{edit(-1, 0, "")}, nil, api.ErrRange},
		{"abcd", []api.Edit{edit(-1, 1, "")}, nil, api.ErrRange},
		{"abcd", []api.Edit{edit(-1, 2, "a")}, nil, api.ErrRange},
		{"abcd", []api.Edit{edit(2, -1, "")}, nil, api.ErrRange},
		{"abcd", []api.Edit{edit(2, -2, "")}, nil, api.ErrRange},
		{"abcd", []api.Edit{edit(0, 4, "")}, []api.Edit{edit(0, 4, "")}, api.OK},
		{"abcd", []api.Edit{edit(0, 5, "")}, nil, api.ErrRange},
		{"abcd", []api.Edit{edit(3, 2, "")}, nil, api.ErrRange},
		{"abcd", []api.Edit{edit(4, 1, "")}, nil, api.ErrRange},
		{"", []api.Edit{edit(0, 1, "")}, nil, api.ErrRange},
		{"", []api.Edit{edit(1, 0, "")}, nil, api.ErrRange},
		{"abcd", []api.Edit{edit(1, math.MaxInt, "")}, nil, api.ErrRange},
		{"abcd", []api.Edit{edit(math.MaxInt, 1, "")}, nil, api.ErrRange},
		{"abcd", []api.Edit{edit(math.MaxInt, math.MaxInt, "")}, nil, api.ErrRange},
		{"abcd", []api.Edit{edit(math.MinInt, math.MinInt, "")}, nil, api.ErrRange},
		{"abcd", []api.Edit{edit(math.MinInt, math.MaxInt, "")}, nil, api.ErrRange},
		{"abcd", []api.Edit{edit(1, 2, "X"), edit(1, 2, "X"), edit(0, 5, "")}, nil, api.ErrRange},
		{"abcd", []api.Edit{edit(0, 5, ""), edit(1, 2, "X"), edit(1, 2, "X")}, nil, api.ErrRange},
		{"abcd", []api.Edit{edit(1, 1, "X"), edit(3, 1, "Y"), edit(9, 9, "Z")}, nil, api.ErrRange},
		// How many.
		{"abcd", many(65535, edit(0, 4, "abcd")), nil, api.OK},
		{"abcd", many(65536, edit(0, 4, "abcd")), nil, api.OK},
		{"abcd", many(65537, edit(0, 4, "abcd")), nil, api.ErrMany},
		{"abcd", many(65536, edit(0, 4, "abc")), nil, api.ErrOrder},
		{"abcd", many(65537, edit(0, 4, "abc")), nil, api.ErrMany},
		{"abcd", many(65536, edit(0, 5, "")), nil, api.ErrRange},
		{"abcd", many(65537, edit(0, 5, "")), nil, api.ErrMany},
		{"abcd", many(70000, edit(1, 0, "")), nil, api.ErrMany},
		{"abcd", append(many(65535, edit(1, 0, "")), edit(4, 0, "X")), []api.Edit{edit(4, 0, "X")}, api.OK},
	} {
		got, err := Tidy([]byte(c.text), c.l)
		if !slices.Equal(got, c.want) || err != c.err {
			t.Errorf("P18.1: Tidy(%q, %.300s): %.300s, %d, not %s, %d", c.text, told(c.l), told(got), err, told(c.want), c.err)
		}
		hold(t, c.text, c.l)
	}
}

func TestApplyAndBack(t *testing.T) {
	for _, c := range []struct {
		text string
		l    []api.Edit
		want string
		back []api.Edit
	}{
		{"", nil, "", nil},
		{"abcd", nil, "abcd", nil},
		{"abcd", []api.Edit{edit(1, 2, "bc")}, "abcd", nil},
		{"abcd", []api.Edit{edit(1, 2, "X")}, "aXd", []api.Edit{edit(1, 1, "bc")}},
		{"abcd", []api.Edit{edit(1, 2, "")}, "ad", []api.Edit{edit(1, 0, "bc")}},
		{"abcd", []api.Edit{edit(1, 0, "XYZ")}, "aXYZbcd", []api.Edit{edit(1, 3, "")}},
		{"abcd", []api.Edit{edit(0, 0, "X")}, "Xabcd", []api.Edit{edit(0, 1, "")}},
		{"abcd", []api.Edit{edit(4, 0, "X")}, "abcdX", []api.Edit{edit(4, 1, "")}},
		{"abcd", []api.Edit{edit(0, 4, "")}, "", []api.Edit{edit(0, 0, "abcd")}},
		{"abcd", []api.Edit{edit(0, 4, "abcde")}, "abcde", []api.Edit{edit(0, 5, "abcd")}},
		{"", []api.Edit{edit(0, 0, "X")}, "X", []api.Edit{edit(0, 1, "")}},
		{"abcd", []api.Edit{edit(3, 1, ""), edit(0, 1, "AAA"), edit(2, 0, "-")}, "AAAb-c", []api.Edit{edit(0, 3, "a"), edit(4, 1, ""), edit(6, 0, "d")}},
		{"abcd", []api.Edit{edit(1, 2, "Y"), edit(1, 0, "X"), edit(3, 0, "Z")}, "aXYZd", []api.Edit{edit(1, 1, ""), edit(2, 1, "bc"), edit(3, 1, "")}},
		{"abcd", []api.Edit{edit(0, 1, "b"), edit(1, 1, "a")}, "bacd", []api.Edit{edit(0, 1, "a"), edit(1, 1, "b")}},
		{"abcd", []api.Edit{edit(1, 1, ""), edit(2, 0, "X")}, "aXcd", []api.Edit{edit(1, 0, "b"), edit(1, 1, "")}},
		{"abcd", []api.Edit{edit(1, 1, ""), edit(2, 1, "X")}, "aXd", []api.Edit{edit(1, 0, "b"), edit(1, 1, "c")}},
		{"abcd", []api.Edit{edit(1, 1, ""), edit(2, 1, "")}, "ad", []api.Edit{edit(1, 0, "b"), edit(1, 0, "c")}},
		{"a\xffb\n", []api.Edit{edit(1, 1, "\xc3"), edit(4, 0, "\x00")}, "a\xc3b\n\x00", []api.Edit{edit(1, 1, "\xff"), edit(4, 1, "")}},
		{"\u00e9", []api.Edit{edit(1, 1, "\xa8")}, "\u00e8", []api.Edit{edit(1, 1, "\xa9")}},
	} {
		b := []byte(c.text)
		if got, e := Apply(b, c.l...); string(got) != c.want || e != api.OK {
			t.Errorf("P18.2: Apply(%q, %s): %q, %d, not %q", c.text, told(c.l), got, e, c.want)
		}
		if got, e := Back(b, c.l); !slices.Equal(got, c.back) || e != api.OK {
			t.Errorf("P18.2: Back(%q, %s): %s, %d, not %s", c.text, told(c.l), told(got), e, told(c.back))
		}
		hold(t, c.text, c.l)
	}
}

// Where each place stands, from the first to the last.
func TestPlace(t *testing.T) {
	for _, c := range []struct {
		text string
		l    []api.Edit
		want []int
	}{
		{"", nil, []int{0}},
		{"", []api.Edit{edit(0, 0, "XY")}, []int{2}},
		{"abcd", nil, []int{0, 1, 2, 3, 4}},
		{"abcd", []api.Edit{edit(1, 2, "bc"), edit(0, 0, "")}, []int{0, 1, 2, 3, 4}},
		{"abcd", []api.Edit{edit(1, 2, "X")}, []int{0, 1, 1, 2, 3}},
		{"abcd", []api.Edit{edit(1, 2, "WXYZ")}, []int{0, 1, 1, 5, 6}},
		{"abcd", []api.Edit{edit(1, 2, "XY")}, []int{0, 1, 1, 3, 4}},
		{"abcd", []api.Edit{edit(1, 2, "")}, []int{0, 1, 1, 1, 2}},
		{"abcd", []api.Edit{edit(1, 0, "XY")}, []int{0, 3, 4, 5, 6}},
		{"abcd", []api.Edit{edit(0, 0, "XY")}, []int{2, 3, 4, 5, 6}},
		{"abcd", []api.Edit{edit(4, 0, "XY")}, []int{0, 1, 2, 3, 6}},
		{"abcd", []api.Edit{edit(0, 4, "XY")}, []int{0, 0, 0, 0, 2}},
		{"abcd", []api.Edit{edit(0, 4, "")}, []int{0, 0, 0, 0, 0}},
		{"abcd", []api.Edit{edit(1, 2, "X"), edit(1, 0, "YZ")}, []int{0, 3, 3, 4, 5}},
		{"abcd", []api.Edit{edit(1, 2, "X"), edit(3, 0, "YZ")}, []int{0, 1, 1, 4, 5}},
		{"abcd", []api.Edit{edit(1, 2, "X"), edit(3, 1, "YZ")}, []int{0, 1, 1, 2, 4}},
		{"abcd", []api.Edit{edit(3, 1, ""), edit(0, 2, "XYZ")}, []int{0, 0, 3, 4, 4}},
		{"abcd", []api.Edit{edit(0, 2, ""), edit(2, 2, "")}, []int{0, 0, 0, 0, 0}},
		{"abcd", []api.Edit{edit(0, 2, ""), edit(2, 2, "X")}, []int{0, 0, 0, 0, 1}},
	} {
		for at, want := range c.want {
			if got, e := Place([]byte(c.text), c.l, at); got != want || e != api.OK {
				t.Errorf("P18.2: Place(%q, %s, %d): %d, %d, not %d", c.text, told(c.l), at, got, e, want)
			}
		}
		hold(t, c.text, c.l)
	}
}

// eachEdit does something with each edit of n bytes, of the texts.
func eachEdit(n int, texts []string, do func(api.Edit)) {
	for at := range n + 1 {
		for long := range n - at + 1 {
			for _, text := range texts {
				do(edit(at, long, text))
			}
		}
	}
}

func TestSmallEdits(t *testing.T) {
	for _, text := range []string{"", "a", "aa", "ab", "aaa", "aba", "abc", "aaaa", "abab", "abcde"} {
		eachEdit(len(text), []string{"", "a", "b", "ab", "aba", "XYZW"}, func(x api.Edit) {
			hold(t, text, []api.Edit{x})
			eachEdit(len(text), []string{"", "a", "aa", "ab", "XYZ"}, func(y api.Edit) {
				hold(t, text, []api.Edit{x, y})
			})
		})
	}
	for _, text := range []string{"a", "aa", "ab", "abc"} {
		texts := []string{"", "a", "XY"}
		eachEdit(len(text), texts, func(x api.Edit) {
			eachEdit(len(text), texts, func(y api.Edit) {
				eachEdit(len(text), texts, func(z api.Edit) { hold(t, text, []api.Edit{x, y, z}) })
			})
		})
	}
}

// TestEachSpan puts each number in each role of a span, ahead of, behind and without another edit.
func TestEachSpan(t *testing.T) {
	numbers := []int{math.MinInt, math.MinInt + 1, math.MinInt + 4, math.MinInt / 2, -65537, -65536, -5, -4, -3, -2, -1, 0, 1, 2, 3, 4, 5, 6, 65535, 65536, 65537, math.MaxInt / 2, math.MaxInt/2 + 1, math.MaxInt - 4, math.MaxInt - 3, math.MaxInt - 1, math.MaxInt}
	for _, at := range numbers {
		for _, n := range numbers {
			for _, text := range []string{"", "bc", "X"} {
				e, other := edit(at, n, text), edit(1, 2, "Y")
				for _, b := range []string{"", "a", "abcd"} {
					hold(t, b, []api.Edit{e})
					hold(t, b, []api.Edit{e, other})
					hold(t, b, []api.Edit{other, e})
					hold(t, b, []api.Edit{e, e})
				}
			}
		}
	}
}

// row is a list of edits that fit, in any order, with some that change nothing; now and then with one that doesn't fit.
func row(random *rand.Rand, b []byte) []api.Edit {
	texts := []string{"", "", "a", "b", "ab", "\xff", "\u00e9", "a longer one", strings.Repeat("x", 300)}
	var l []api.Edit
	for at := 0; at <= len(b); at += random.Intn(4) {
		n := min(random.Intn(4), len(b)-at)
		text := texts[random.Intn(len(texts))]
		if random.Intn(5) == 0 {
			text = string(b[at : at+n])
		}
		l = append(l, edit(at, n, text))
		at += n
		if n == 0 {
			at++
		}
	}
	for random.Intn(3) == 0 {
		at := random.Intn(len(b) + 1)
		n := random.Intn(len(b) - at + 1)
		l = append(l, edit(at, n, string(b[at:at+n])))
	}
	for random.Intn(8) == 0 {
		l = append(l, edit(random.Intn(len(b)+1), random.Intn(5), texts[random.Intn(len(texts))]))
	}
	random.Shuffle(len(l), func(i, j int) { l[i], l[j] = l[j], l[i] })
	return l
}

func TestRandomEdits(t *testing.T) {
	random := rand.New(rand.NewSource(18))
	kept := 0
	for range 20000 {
		b := make([]byte, random.Intn(30))
		for i := range b {
			b[i] = "aab\xff"[random.Intn(4)]
		}
		l := row(random, b)
		hold(t, string(b), l)
		if tidy, _ := Tidy(b, l); len(tidy) > 3 {
			kept++
		}
	}
	if kept < 5000 {
		t.Errorf("too few rows of edits fit: %d", kept)
	}
}

func TestWholeFiles(t *testing.T) {
	text := strings.Repeat("ab", api.MaxFile/2)
	var each, between, halves []api.Edit
	for i := range api.MaxFile {
		each = append(each, edit(i, 1, "xyz"[:i%4%3]))
		between = append(between, edit(api.MaxFile-i, 0, "-"))
		halves = append(halves, edit(i/2*2+i%2, 1-i%2, "x"))
	}
	for _, l := range [][]api.Edit{each, between, halves, {edit(0, api.MaxFile, "")}, {edit(0, 0, text)}, {edit(api.MaxFile, 0, text)}, {edit(0, api.MaxFile, text)}, {edit(api.MaxFile, 1, "")}, {edit(1, api.MaxFile, "")}} {
		hold(t, text, l)
		hold(t, text, append(slices.Clone(l), edit(5, 0, "")))
		hold(t, text, append(slices.Clone(l), edit(5, 2, "!")))
	}
	// Nor are longer bytes than any file's refused here, or spans beyond it.
	long := strings.Repeat(text, 3)
	hold(t, long, []api.Edit{edit(70000, 100000, "X"), edit(180000, 0, "Y"), edit(196608, 0, "Z"), edit(0, 70000, "")})
	hold(t, long, []api.Edit{edit(0, 196608, "X"), edit(196608, 0, "Y")})
	hold(t, long, []api.Edit{edit(0, 196609, "X")})
}

// What is handed in stays, its spare room isn't read, and answers are new memory.
func TestMemory(t *testing.T) {
	all := []byte("abcdefgh")
	texts := strings.Repeat("XYZ", 10)
	room := []api.Edit{edit(6, 1, texts[:2]), edit(1, 2, texts[3:4]), edit(1, 0, texts[:0]), edit(4, 0, texts[5:9]), edit(1, 2, "out")}
	before, bytesBefore := slices.Clone(room), bytes.Clone(all)
	for n := range len(room) {
		for long := range len(all) + 1 {
			l, b := room[:n], all[:long]
			hold(t, string(b), slices.Clone(l))
			tidy, e1 := Tidy(b, l)
			done, e2 := Apply(b, l...)
			back, e3 := Back(b, l)
			Place(b, l, 3)
			s, want := seated(bytes.Clone(b), slices.Clone(l))
			if e1 != want || e2 != want || e3 != want || want == api.OK && (!slices.Equal(tidy, s.tidy()) || !bytes.Equal(done, s.done()) || !slices.Equal(back, s.back())) {
				t.Errorf("R6: %d edits, %d bytes, with spare room: %s", n, long, told(tidy))
			}
			spoil(tidy, done, back)
			if !slices.Equal(room, before) || !bytes.Equal(all, bytesBefore) {
				t.Fatalf("R6: %d edits, %d bytes: what was handed in was changed", n, long)
			}
		}
	}
	// Of no change, too.
	done, _ := Apply(all)
	spoil(nil, done, nil)
	if !bytes.Equal(all, bytesBefore) {
		t.Error("R6: Apply without edits answers what it was given")
	}
}

// spoil overwrites answers, and their spare room.
func spoil(tidy []api.Edit, done []byte, back []api.Edit) {
	clear(tidy[:cap(tidy)])
	clear(done[:cap(done)])
	clear(back[:cap(back)])
}

// No answer keeps the bytes or the texts that were handed in.
func TestTexts(t *testing.T) {
	b := []byte("abcd")
	text := strings.Repeat("X", 100)
	l := []api.Edit{edit(1, 2, text[10:20])}
	tidy, _ := Tidy(b, l)
	from := uintptr(unsafe.Pointer(unsafe.StringData(text)))
	if at := uintptr(unsafe.Pointer(unsafe.StringData(tidy[0].Text))); at >= from && at < from+100 {
		t.Error("R6: Tidy answers the text that it was given")
	}
	back, _ := Back(b, l)
	done, _ := Apply(b, l...)
	clear(b)
	clear(l)
	if back[0].Text != "bc" || string(done) != "aXXXXXXXXXXd" || tidy[0] != edit(1, 2, "XXXXXXXXXX") {
		t.Errorf("R6: answers change with what was handed in: %s, %q, %s", told(back), done, told(tidy))
	}
}

func TestAgain(t *testing.T) {
	b := []byte("abcd")
	l := []api.Edit{edit(4, 0, "!"), edit(1, 2, "X"), edit(0, 1, "a")}
	for range 3 {
		hold(t, "abcd", l)
		tidy, e1 := Tidy(b, l)
		done, e2 := Apply(b, l...)
		n, e3 := Place(b, l, 4)
		_, wrong := Tidy(b, []api.Edit{l[0], l[0]})
		if !slices.Equal(tidy, []api.Edit{l[1], l[0]}) || string(done) != "aXd!" || n != 4 || e1 != api.OK || e2 != api.OK || e3 != api.OK || wrong != api.ErrOrder {
			t.Errorf("R8: %s, %q, %d, %d %d %d %d", told(tidy), done, n, e1, e2, e3, wrong)
		}
	}
}

func FuzzEdits(f *testing.F) {
	f.Add("abcd", 1, 2, "X", 4, 0, "!")
	f.Add("abcd", 2, 0, "", 2, 0, "Y")
	f.Fuzz(func(t *testing.T, text string, at, n int, x string, at2, n2 int, y string) {
		hold(t, text, []api.Edit{edit(at, n, x), edit(at2, n2, y)})
	})
}
