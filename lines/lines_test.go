package lines

import (
	"bytes"
	"math"
	"slices"
	"strings"
	"testing"
	"unicode/utf8"

	"redpen/api"
)

// cut is the lines of bytes by the chapter's words: byte by byte, each as a piece of b.
func cut(b []byte) [][]byte {
	var l [][]byte
	from := 0
	for i, c := range b {
		if c == 10 || i == len(b)-1 {
			l = append(l, b[from:i+1])
			from = i + 1
		}
	}
	return l
}

// column counts, from the line's beginning on, the signs that begin ahead of at.
func column(b []byte, from, at int) int {
	n := 1
	for i := from; i < at; n++ {
		_, size := utf8.DecodeRune(b[i:])
		i += size
	}
	return n
}

// hold asks everything of bytes, and holds the answers against a count by hand.
func hold(t *testing.T, b []byte) {
	t.Helper()
	want := cut(b)
	x := New(b)
	if x.Lines() != len(want) {
		t.Fatalf("P3.1: Lines of %q: %d, not %d", b, x.Lines(), len(want))
	}
	l := Split(b)
	if len(l) != len(want) || strings.Join(l, "") != string(b) {
		t.Fatalf("P3.1: Split of %q: %q", b, l)
	}
	from := 0
	for i, w := range want {
		if l[i] != string(w) {
			t.Fatalf("P3.1: Split of %q: %q", b, l)
		}
		if s, e := x.Span(i + 1); e != api.OK || s != (api.Span{At: from, Len: len(w)}) {
			t.Fatalf("P3.1: Span(%d) of %q: %v, %d", i+1, b, s, e)
		}
		for at := from; at < from+len(w); at++ {
			holdAt(t, x, b, at, api.Place{Line: i + 1, Col: column(b, from, at)})
		}
		from += len(w)
	}
	end := api.Place{Line: 1, Col: 1}
	if n := len(want); n > 0 {
		end = api.Place{Line: n, Col: column(b, len(b)-len(want[n-1]), len(b))}
	}
	holdAt(t, x, b, len(b), end)
	holdRefused(t, x, len(want), len(b))
}

func holdAt(t *testing.T, x *Index, b []byte, at int, want api.Place) {
	t.Helper()
	if n, e := x.Line(at); e != api.OK || n != want.Line {
		t.Fatalf("P3.1: Line(%d) of %q: %d, %d; not %d", at, b, n, e, want.Line)
	}
	if p, e := x.Place(at); e != api.OK || p != want {
		t.Fatalf("P3.1: Place(%d) of %q: %v, %d; not %v", at, b, p, e, want)
	}
}

// holdRefused asks for lines and places outside of what there is.
func holdRefused(t *testing.T, x *Index, lines, size int) {
	t.Helper()
	for _, n := range []int{0, -1, -2, math.MinInt, lines + 1, lines + 2, math.MaxInt, math.MaxInt32 + 2, 1<<32 + 1} {
		if s, e := x.Span(n); e != api.ErrRange || s != (api.Span{}) {
			t.Fatalf("P3.1, R3: Span(%d) of %d lines: %v, %d", n, lines, s, e)
		}
	}
	for _, at := range []int{-1, -2, math.MinInt, size + 1, size + 2, math.MaxInt, math.MaxInt - 1, 1 << 32} {
		if n, e := x.Line(at); e != api.ErrRange || n != 0 {
			t.Fatalf("P3.1, R3: Line(%d) of %d bytes: %d, %d", at, size, n, e)
		}
		if p, e := x.Place(at); e != api.ErrRange || p != (api.Place{}) {
			t.Fatalf("P3.1, R3: Place(%d) of %d bytes: %v, %d", at, size, p, e)
		}
	}
}

func TestChapterExamples(t *testing.T) {
	x := New([]byte("a\nbc"))
	three, _ := x.Place(3)
	four, _ := x.Place(4)
	if x.Lines() != 2 || three != (api.Place{Line: 2, Col: 2}) || four != (api.Place{Line: 2, Col: 3}) {
		t.Error("P3.1: a\\nbc:", x.Lines(), three, four)
	}
	y := New([]byte("a\n"))
	if end, _ := y.Place(2); y.Lines() != 1 || end != (api.Place{Line: 1, Col: 3}) {
		t.Error("P3.1: a\\n:", y.Lines(), end)
	}
}

func TestLinesWrittenOut(t *testing.T) {
	for _, c := range []struct {
		text  string
		lines []string
	}{
		{"", nil},
		{"\n", []string{"\n"}},
		{"\n\n\n", []string{"\n", "\n", "\n"}},
		{"a", []string{"a"}},
		{"a\n", []string{"a\n"}},
		{"\na", []string{"\n", "a"}},
		{"ab\n\ncd\n", []string{"ab\n", "\n", "cd\n"}},
		{"ab\r\ncd\r", []string{"ab\r\n", "cd\r"}},
		{"a\u0085b\u2028c\u2029\v\f", []string{"a\u0085b\u2028c\u2029\v\f"}},
	} {
		b := []byte(c.text)
		if l := Split(b); !slices.Equal(l, c.lines) {
			t.Errorf("P3.1: Split(%q): %q", c.text, l)
		}
		hold(t, b)
	}
}

func TestNoBytes(t *testing.T) {
	for _, b := range [][]byte{nil, {}} {
		x := New(b)
		n, e := x.Line(0)
		p, f := x.Place(0)
		if x.Lines() != 0 || n != 1 || e != api.OK || p != (api.Place{Line: 1, Col: 1}) || f != api.OK || len(Split(b)) != 0 {
			t.Error("P3.1, R5: no bytes:", x.Lines(), n, e, p, f)
		}
		holdRefused(t, x, 0, 0)
	}
}

// A place within a sign has that sign ahead of it; the bytes behind the place still say what the sign is.
func TestColumnsWrittenOut(t *testing.T) {
	for _, c := range []struct {
		text string
		cols []int // at each place, the end too
	}{
		{"x\u00e4y", []int{1, 2, 3, 3, 4}},
		{"\u20acy", []int{1, 2, 2, 2, 3}},
		{"\U0001d11ey", []int{1, 2, 2, 2, 2, 3}},
		{"\u00e4\n", []int{1, 2, 2, 3}},
		{"\xff\xfe", []int{1, 2, 3}},
		{"\xe2\x82", []int{1, 2, 3}},
		{"\xe2\x82y", []int{1, 2, 3, 4}},
		{"\xed\xa0\x80", []int{1, 2, 3, 4}},
		{"\xc0\x8a", []int{1, 2, 3}},
		{"\xef\xbf\xbd", []int{1, 2, 2, 2}},
		{"\x00\x00", []int{1, 2, 3}},
	} {
		x := New([]byte(c.text))
		for at, col := range c.cols {
			if p, e := x.Place(at); e != api.OK || p != (api.Place{Line: 1, Col: col}) {
				t.Errorf("P3.1: Place(%d) of %q: %v, %d; not column %d", at, c.text, p, e, col)
			}
		}
		hold(t, []byte(c.text))
	}
}

func TestColumnsBeginAnew(t *testing.T) {
	x := New([]byte("\u00e4\u20ac\n\xe2\x82\n\n\U0001d11ez"))
	for _, c := range []struct {
		at   int
		want api.Place
	}{
		{4, api.Place{Line: 1, Col: 3}},
		{5, api.Place{Line: 1, Col: 3}},
		{6, api.Place{Line: 2, Col: 1}},
		{7, api.Place{Line: 2, Col: 2}},
		{8, api.Place{Line: 2, Col: 3}},
		{9, api.Place{Line: 3, Col: 1}},
		{10, api.Place{Line: 4, Col: 1}},
		{13, api.Place{Line: 4, Col: 2}},
		{14, api.Place{Line: 4, Col: 2}},
		{15, api.Place{Line: 4, Col: 3}},
	} {
		if p, e := x.Place(c.at); e != api.OK || p != c.want {
			t.Errorf("P3.1: Place(%d): %v, %d; not %v", c.at, p, e, c.want)
		}
	}
}

// pieces: newlines, signs of one to four bytes, and bytes that are none.
var pieces = []string{"\n", "a", "\r", "\u00e4", "\u20ac", "\U0001d11e", "\x82", "\xe2", "\xf0"}

func TestAllShortTexts(t *testing.T) {
	texts := []string{""}
	for range 5 {
		var longer []string
		for _, s := range texts {
			hold(t, []byte(s))
			for _, p := range pieces {
				longer = append(longer, s+p)
			}
		}
		texts = longer
	}
}

func TestLongTexts(t *testing.T) {
	for _, s := range []string{
		strings.Repeat("\n", api.MaxFile),
		strings.Repeat("a", 3000),
		strings.Repeat("a\u00e4\n\xff", 1500),
		strings.Repeat("\u20ac", 900) + "\n" + strings.Repeat("z\n", 700) + "end",
	} {
		hold(t, []byte(s))
	}
}

// Columns of a long line are asked at each place of a whole file: that ends soon only if none of them is counted from the line's beginning on.
func TestOneLongLine(t *testing.T) {
	x := New(bytes.Repeat([]byte{'a'}, api.MaxFile))
	for at := range api.MaxFile + 1 {
		if p, e := x.Place(at); e != api.OK || p != (api.Place{Line: 1, Col: at + 1}) {
			t.Fatalf("P3.1: Place(%d): %v, %d", at, p, e)
		}
	}
}

func TestHandedInStays(t *testing.T) {
	room := []byte("ab\nc\u00e4\nd" + "spare\n")
	b := room[:8]
	was := bytes.Clone(room)
	x := New(b)
	l := Split(b)
	if !bytes.Equal(room, was) {
		t.Errorf("R6: New or Split changed what was handed in: %q", room)
	}
	for i := range room {
		room[i] = '\n'
	}
	if !slices.Equal(l, []string{"ab\n", "c\u00e4\n", "d"}) {
		t.Errorf("R6: Split's answer changed with the bytes: %q", l)
	}
	if p, e := x.Place(6); x.Lines() != 3 || e != api.OK || p != (api.Place{Line: 2, Col: 3}) {
		t.Errorf("R6: the lines changed with the bytes: %d, %v, %d", x.Lines(), p, e)
	}
	if s, e := x.Span(3); e != api.OK || s != (api.Span{At: 7, Len: 1}) {
		t.Errorf("R6: the spans changed with the bytes: %v, %d", s, e)
	}
	if n, e := x.Line(2); e != api.OK || n != 1 {
		t.Errorf("R6: a place's line changed with the bytes: %d, %d", n, e)
	}
	for i := range room {
		room[i] = 0x82
	}
	if p, e := x.Place(6); e != api.OK || p != (api.Place{Line: 2, Col: 3}) {
		t.Errorf("R6: a column changed with the bytes: %v, %d", p, e)
	}
}

// What lies in the spare room belongs to no line, even where it would end a sign.
func TestSpareRoomIsNotRead(t *testing.T) {
	b := []byte("a\xe2\x82\xac\n")[:3]
	x := New(b)
	if p, e := x.Place(3); x.Lines() != 1 || e != api.OK || p != (api.Place{Line: 1, Col: 4}) {
		t.Errorf("R6: spare room was read: %d, %v, %d", x.Lines(), p, e)
	}
	if l := Split(b); !slices.Equal(l, []string{"a\xe2\x82"}) {
		t.Errorf("R6: spare room was read: %q", l)
	}
}

func TestAnswersAreNewMemory(t *testing.T) {
	b := []byte("a\nb\n")
	one, two := Split(b), Split(b)
	one[0] = "z"
	if !slices.Equal(two, []string{"a\n", "b\n"}) || !slices.Equal(Split(b), two) {
		t.Errorf("R6: answers share memory: %q", two)
	}
	x, y := New(b), New([]byte("\n"))
	if x == New(b) || x.Lines() != 2 || y.Lines() != 1 {
		t.Error("R6: objects share memory:", x.Lines(), y.Lines())
	}
}

// An error, too, leaves the object as it was.
func TestAskedTwice(t *testing.T) {
	b := []byte("a\u00e4\n\nb")
	x := New(b)
	for range 3 {
		holdRefused(t, x, 3, len(b))
		if p, e := x.Place(6); x.Lines() != 3 || e != api.OK || p != (api.Place{Line: 3, Col: 2}) {
			t.Fatalf("R4, R8: asked again: %d, %v, %d", x.Lines(), p, e)
		}
		if s, e := x.Span(1); e != api.OK || s != (api.Span{At: 0, Len: 4}) {
			t.Fatalf("R4, R8: asked again: %v, %d", s, e)
		}
	}
}

func TestNilObject(t *testing.T) {
	var x *Index
	if x.Lines() != 0 {
		t.Error("R7: Lines:", x.Lines())
	}
	for _, n := range []int{0, 1, 2, -1, math.MinInt, math.MaxInt} {
		if s, e := x.Span(n); e != api.ErrNil || s != (api.Span{}) {
			t.Errorf("R7: Span(%d): %v, %d", n, s, e)
		}
		if l, e := x.Line(n); e != api.ErrNil || l != 0 {
			t.Errorf("R7: Line(%d): %d, %d", n, l, e)
		}
		if p, e := x.Place(n); e != api.ErrNil || p != (api.Place{}) {
			t.Errorf("R7: Place(%d): %v, %d", n, p, e)
		}
	}
}

// An object that New didn't make has no lines; P1 holds for it too.
func TestObjectNotMadeByNew(t *testing.T) {
	x := &Index{}
	if p, e := x.Place(0); x.Lines() != 0 || e != api.OK || p != (api.Place{Line: 1, Col: 1}) {
		t.Error("P1: a zero Index:", x.Lines(), p, e)
	}
	holdRefused(t, x, 0, 0)
}

func FuzzLines(f *testing.F) {
	for _, p := range pieces {
		f.Add([]byte(p + "x\n" + p))
	}
	f.Fuzz(hold)
}
