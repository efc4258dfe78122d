package utf

import (
	"bytes"
	"math"
	"slices"
	"strings"
	"testing"

	"redpen/api"
)

// isRune says by the chapter's numbers whether a rune can be Put.
func isRune(r rune) bool {
	return r >= 0 && r <= 0x10ffff && (r < 0xd800 || r > 0xdfff)
}

// heads are the bits with which a sign of so many bytes begins; one more bit behind them is nought.
var heads = [5]byte{0, 0, 0xc0, 0xe0, 0xf0}

// encoded writes a rune in UTF-8 by hand, in n bytes, whether these are as few as may be or not.
func encoded(r rune, n int) []byte {
	if n == 1 {
		return []byte{byte(r)}
	}
	b := make([]byte, n)
	for i := n - 1; i > 0; i-- {
		b[i] = 0x80 | byte(r&0x3f)
		r >>= 6
	}
	b[0] = heads[n] | byte(r)
	return b
}

// fewest is in how many bytes a rune has room.
func fewest(r rune) int {
	switch {
	case r < 0x80:
		return 1
	case r < 0x800:
		return 2
	case r < 0x10000:
		return 3
	}
	return 4
}

func put(r rune) []byte { return encoded(r, fewest(r)) }

// first is Next by the chapter's words alone: each length is tried by its bits.
func first(b []byte) (rune, int) {
	if len(b) == 0 {
		return -1, 0
	}
	if b[0] < 0x80 {
		return rune(b[0]), 1
	}
	for n := 2; n <= 4 && n <= len(b); n++ {
		if b[0]>>(7-n) != heads[n]>>(7-n) {
			continue
		}
		r, ok := rune(b[0])&(0x7f>>n), true
		for _, c := range b[1:n] {
			ok = ok && c&0xc0 == 0x80
			r = r<<6 | rune(c&0x3f)
		}
		if ok && isRune(r) && fewest(r) == n {
			return r, n
		}
	}
	return -1, 1
}

// all is Units by first.
func all(b []byte) []api.Unit {
	var l []api.Unit
	for at := 0; at < len(b); {
		r, n := first(b[at:])
		l = append(l, api.Unit{Rune: r, Span: api.Span{At: at, Len: n}})
		at += n
	}
	return l
}

func runesOf(l []api.Unit) []rune {
	var rs []rune
	for _, u := range l {
		rs = append(rs, u.Rune)
	}
	return rs
}

// edgeRunes are the least and the greatest of each length, those about the halves of pairs, and some between.
var edgeRunes = []rune{
	0, 1, 0x41, 0x7f, 0x80, 0xe4, 0x7ff, 0x800, 0x20ac, 0xd7ff, 0xe000, 0xfffc, 0xfffd, 0xfffe, 0xffff,
	0x10000, 0x1f600, 0xfffff, 0x100000, 0x10fffe, 0x10ffff,
}

// wrongRunes can't be Put.
var wrongRunes = []rune{
	-1, -2, -0x41, math.MinInt32, math.MinInt32 + 1, 0xd800, 0xd801, 0xdbff, 0xdc00, 0xdffe, 0xdfff,
	0x110000, 0x110001, 0x1fffff, 0x200000, math.MaxInt32 - 1, math.MaxInt32,
}

// edgeBytes are those at which an answer may turn, at whatever place of a sign.
var edgeBytes = []byte{
	0, 0x41, 0x7f, 0x80, 0x81, 0x8f, 0x90, 0x9f, 0xa0, 0xbf, 0xc0, 0xc1, 0xc2, 0xc3, 0xdf,
	0xe0, 0xe1, 0xec, 0xed, 0xee, 0xef, 0xf0, 0xf1, 0xf3, 0xf4, 0xf5, 0xf7, 0xf8, 0xfb, 0xfc, 0xfe, 0xff,
}

// wrong are bytes that begin with no sign.
var wrong = []struct {
	name string
	b    []byte
}{
	{"a byte that goes on", []byte{0x80}},
	{"the last byte that goes on", []byte{0xbf}},
	{"a byte that goes on, ahead of a letter", []byte{0x80, 0x41}},
	{"fe", []byte{0xfe}},
	{"ff", []byte{0xff, 0x41}},
	{"f5, behind the greatest first byte", []byte{0xf5, 0x80, 0x80, 0x80}},
	{"five bytes", []byte{0xf8, 0x88, 0x80, 0x80, 0x80}},
	{"six bytes", []byte{0xfc, 0x84, 0x80, 0x80, 0x80, 0x80}},
	{"nought in two bytes", []byte{0xc0, 0x80}},
	{"7f in two bytes", []byte{0xc1, 0xbf}},
	{"7f in three bytes", []byte{0xe0, 0x81, 0xbf}},
	{"nought in three bytes", []byte{0xe0, 0x80, 0x80}},
	{"7ff in three bytes", []byte{0xe0, 0x9f, 0xbf}},
	{"nought in four bytes", []byte{0xf0, 0x80, 0x80, 0x80}},
	{"ffff in four bytes", []byte{0xf0, 0x8f, 0xbf, 0xbf}},
	{"d800", []byte{0xed, 0xa0, 0x80}},
	{"dbff", []byte{0xed, 0xaf, 0xbf}},
	{"dc00", []byte{0xed, 0xb0, 0x80}},
	{"dfff", []byte{0xed, 0xbf, 0xbf}},
	{"a pair of halves", []byte{0xed, 0xa0, 0xbd, 0xed, 0xb8, 0x80}},
	{"110000", []byte{0xf4, 0x90, 0x80, 0x80}},
	{"1fffff", []byte{0xf7, 0xbf, 0xbf, 0xbf}},
	{"one of two", []byte{0xc3}},
	{"one of three", []byte{0xe2}},
	{"two of three", []byte{0xe2, 0x82}},
	{"one of four", []byte{0xf0}},
	{"two of four", []byte{0xf0, 0x9f}},
	{"three of four", []byte{0xf0, 0x9f, 0x98}},
	{"one of two, then a letter", []byte{0xc3, 0x41}},
	{"one of two, then another", []byte{0xc3, 0xc3, 0xa4}},
	{"two of three, then a letter", []byte{0xe2, 0x82, 0x41}},
	{"two of three, then a first byte", []byte{0xe2, 0x82, 0xc3, 0xa4}},
	{"three of four, then a letter", []byte{0xf0, 0x9f, 0x98, 0x41}},
	{"one of three, then a letter, then one that goes on", []byte{0xe2, 0x41, 0xac}},
}

func TestNextOfSigns(t *testing.T) {
	for _, c := range []struct {
		b []byte
		r rune
		n int
	}{
		{[]byte{0x41}, 0x41, 1},
		{[]byte{0}, 0, 1},
		{[]byte{0x41, 0xff}, 0x41, 1},
		{[]byte{0xc3, 0xa4}, 0xe4, 2},
		{[]byte{0xc3, 0xa4, 0x41}, 0xe4, 2},
		{[]byte{0xe2, 0x82, 0xac, 0x80}, 0x20ac, 3},
		{[]byte{0xf0, 0x9f, 0x98, 0x80}, 0x1f600, 4},
		{[]byte{0x7f}, 0x7f, 1},
		{[]byte{0xc2, 0x80}, 0x80, 2},
		{[]byte{0xdf, 0xbf}, 0x7ff, 2},
		{[]byte{0xe0, 0xa0, 0x80}, 0x800, 3},
		{[]byte{0xed, 0x9f, 0xbf}, 0xd7ff, 3},
		{[]byte{0xee, 0x80, 0x80}, 0xe000, 3},
		{[]byte{0xef, 0xbf, 0xbd}, 0xfffd, 3},
		{[]byte{0xef, 0xbf, 0xbf}, 0xffff, 3},
		{[]byte{0xf0, 0x90, 0x80, 0x80}, 0x10000, 4},
		{[]byte{0xf4, 0x8f, 0xbf, 0xbf}, 0x10ffff, 4},
	} {
		if r, n := Next(c.b); r != c.r || n != c.n {
			t.Errorf("P2.1: Next(% x) = %x, %d, want %x, %d", c.b, r, n, c.r, c.n)
		}
	}
}

func TestNextOfNothing(t *testing.T) {
	for _, b := range [][]byte{nil, {}, []byte("abc")[:0]} {
		if r, n := Next(b); r != -1 || n != 0 {
			t.Errorf("P2.1: Next of nothing = %x, %d, want -1, 0", r, n)
		}
	}
}

func TestNextOfNoSign(t *testing.T) {
	for _, c := range wrong {
		if r, n := Next(c.b); r != -1 || n != 1 {
			t.Errorf("P2.1: %s: Next(% x) = %x, %d, want -1, 1", c.name, c.b, r, n)
		}
	}
}

// TestNextSeesLengthOnly: what lies behind the end, in spare room, is not b's.
func TestNextSeesLengthOnly(t *testing.T) {
	for _, full := range [][]byte{put(0xe4), put(0x20ac), put(0x1f600)} {
		for n := 1; n < len(full); n++ {
			if r, k := Next(full[:n]); r != -1 || k != 1 {
				t.Errorf("P2.1: Next of the first %d of % x = %x, %d, want -1, 1", n, full, r, k)
			}
		}
	}
}

func TestNextOfEveryRune(t *testing.T) {
	for r := rune(0); r <= 0x110000; r++ {
		wantRune, wantLen := r, fewest(r)
		if !isRune(r) {
			wantRune, wantLen = -1, 1
		}
		if got, n := Next(put(r)); got != wantRune || n != wantLen {
			t.Fatalf("P2.1: Next of %x in UTF-8 = %x, %d, want %x, %d", r, got, n, wantRune, wantLen)
		}
		for n := fewest(r) + 1; n <= 4; n++ {
			if got, k := Next(encoded(r, n)); got != -1 || k != 1 {
				t.Fatalf("P2.1: Next of %x in %d bytes = %x, %d, want -1, 1", r, n, got, k)
			}
		}
	}
}

// eachRow hands over every row of up to n of the edges' bytes; the row is written over afterwards.
func eachRow(n int, do func(b []byte)) {
	row := make([]byte, 0, n)
	var longer func()
	longer = func() {
		do(row)
		if len(row) == n {
			return
		}
		for _, c := range edgeBytes {
			row = append(row, c)
			longer()
			row = row[:len(row)-1]
		}
	}
	longer()
}

func TestNextOfAllRows(t *testing.T) {
	eachRow(4, func(b []byte) {
		wantRune, wantLen := first(b)
		if r, n := Next(b); r != wantRune || n != wantLen {
			t.Fatalf("P2.1: Next(% x) = %x, %d, want %x, %d", b, r, n, wantRune, wantLen)
		}
	})
}

func checkRow(t *testing.T, b []byte) {
	t.Helper()
	want := all(b)
	if l := Units(b); !slices.Equal(l, want) {
		t.Fatalf("P2.1: Units(% x) = %v, want %v", b, l, want)
	}
	if l := Runes(string(b)); !slices.Equal(l, runesOf(want)) {
		t.Fatalf("P2.1: Runes(% x) = %x, want %x", b, l, runesOf(want))
	}
}

func TestUnitsAndRunesOfAllRows(t *testing.T) {
	eachRow(3, func(b []byte) { checkRow(t, b) })
	for _, c := range wrong {
		checkRow(t, c.b)
		checkRow(t, slices.Concat([]byte("a"), c.b, []byte("b")))
		checkRow(t, slices.Concat(put(0x20ac), c.b, put(0xe4)))
	}
}

func TestUnits(t *testing.T) {
	unit := func(r rune, at, n int) api.Unit {
		return api.Unit{Rune: r, Span: api.Span{At: at, Len: n}}
	}
	for _, c := range []struct {
		b    string
		want []api.Unit
	}{
		{"", nil},
		{"\xff\x41", []api.Unit{unit(-1, 0, 1), unit(0x41, 1, 1)}},
		{"a\xc3\xa4\xe2\x82\xac\xf0\x9f\x98\x80z", []api.Unit{
			unit('a', 0, 1), unit(0xe4, 1, 2), unit(0x20ac, 3, 3), unit(0x1f600, 6, 4), unit('z', 10, 1),
		}},
		{"\xef\xbf\xbd\xef\xbf", []api.Unit{unit(0xfffd, 0, 3), unit(-1, 3, 1), unit(-1, 4, 1)}},
		{"\xed\xa0\x80", []api.Unit{unit(-1, 0, 1), unit(-1, 1, 1), unit(-1, 2, 1)}},
		{"\xe2\x82\xc3\xa4", []api.Unit{unit(-1, 0, 1), unit(-1, 1, 1), unit(0xe4, 2, 2)}},
		{"\x00\n", []api.Unit{unit(0, 0, 1), unit(10, 1, 1)}},
	} {
		if l := Units([]byte(c.b)); !slices.Equal(l, c.want) {
			t.Errorf("P2.1: Units(% x) = %v, want %v", c.b, l, c.want)
		}
	}
	if l := Units(nil); len(l) != 0 {
		t.Errorf("P2.1: Units(nil) = %v, want none", l)
	}
}

func TestRunes(t *testing.T) {
	for _, c := range []struct {
		s    string
		want []rune
	}{
		{"", nil},
		{"\xff\x41", []rune{-1, 0x41}},
		{"a\xc3\xa4\xe2\x82\xac\xf0\x9f\x98\x80z", []rune{'a', 0xe4, 0x20ac, 0x1f600, 'z'}},
		{"\xef\xbf\xbd\xef\xbf", []rune{0xfffd, -1, -1}},
		{"\xc0\x80", []rune{-1, -1}},
		{"\xf4\x90\x80\x80", []rune{-1, -1, -1, -1}},
	} {
		if l := Runes(c.s); !slices.Equal(l, c.want) {
			t.Errorf("P2.1: Runes(% x) = %x, want %x", c.s, l, c.want)
		}
	}
}

// TestUnitsOfMuch: a text far beyond a file's limit, which chapter 2 doesn't name.
func TestUnitsOfMuch(t *testing.T) {
	b := bytes.Repeat([]byte("a\xc3\xa4\xff\xe2\x82"), 2*api.MaxFile)
	checkRow(t, b)
}

func TestPut(t *testing.T) {
	for _, head := range [][]byte{nil, {}, []byte("a"), {0xff}, {0xe2, 0x82}} {
		for _, r := range edgeRunes {
			b, e := Put(head, r)
			if want := slices.Concat(head, put(r)); e != api.OK || !bytes.Equal(b, want) {
				t.Errorf("P2.2: Put(% x, %x) = % x, %d, want % x, OK", head, r, b, e, want)
			}
		}
		for _, r := range wrongRunes {
			if b, e := Put(head, r); e != api.ErrRange || b != nil {
				t.Errorf("P2.2, R3: Put(% x, %x) = % x, %d, want none, ErrRange", head, r, b, e)
			}
		}
	}
}

func TestPutOfEveryRune(t *testing.T) {
	for r := rune(-0x1000); r <= 0x111000; r++ {
		b, e := Put(nil, r)
		if !isRune(r) {
			if e != api.ErrRange || b != nil {
				t.Fatalf("P2.2: Put(nil, %x) = % x, %d, want none, ErrRange", r, b, e)
			}
			continue
		}
		if e != api.OK || !bytes.Equal(b, put(r)) {
			t.Fatalf("P2.2: Put(nil, %x) = % x, %d, want % x, OK", r, b, e, put(r))
		}
	}
}

func TestText(t *testing.T) {
	for _, c := range []struct {
		l    []rune
		want string
	}{
		{nil, ""},
		{[]rune{}, ""},
		{[]rune{0}, "\x00"},
		{[]rune{'x', -1, 0xe9}, "x\xc3\xa9"},
		{[]rune{0x41, 0xe4, 0x20ac, 0x1f600}, "A\xc3\xa4\xe2\x82\xac\xf0\x9f\x98\x80"},
		{[]rune{0xd7ff, 0xd800, 0xdfff, 0xe000}, "\xed\x9f\xbf\xee\x80\x80"},
		{[]rune{0x10ffff, 0x110000}, "\xf4\x8f\xbf\xbf"},
		{[]rune{0xd83d, 0xde00}, ""},
		{[]rune{0xfffd}, "\xef\xbf\xbd"},
		{wrongRunes, ""},
		{[]rune{'a', 'a', 'a'}, "aaa"},
	} {
		if s := Text(c.l...); s != c.want {
			t.Errorf("P2.2: Text(%x) = % x, want % x", c.l, s, c.want)
		}
	}
	if s := Text(); s != "" {
		t.Errorf("P2.2: Text() = % x, want nothing", s)
	}
	if s := Text('a', 0x110000, 'b'); s != "ab" {
		t.Errorf("P2.2: Text of runes one by one = % x, want ab", s)
	}
}

// TestTextIsPutInARow: Text holds what Put lays, one behind the other, and Runes reads it back.
func TestTextIsPutInARow(t *testing.T) {
	mixed := slices.Concat(edgeRunes, wrongRunes, edgeRunes)
	var b []byte
	var good []rune
	for _, r := range mixed {
		if longer, e := Put(b, r); e == api.OK {
			b, good = longer, append(good, r)
		}
	}
	s := Text(mixed...)
	if s != string(b) {
		t.Errorf("P2.2: Text = % x, Put in a row % x", s, b)
	}
	if l := Runes(s); !slices.Equal(l, good) {
		t.Errorf("P2.1, P2.2: Runes(Text) = %x, want %x", l, good)
	}
}

func TestTextOfMuch(t *testing.T) {
	l := slices.Repeat([]rune{'a', -1, 0x1f600}, 2*api.MaxFile)
	if Text(l...) != strings.Repeat("a\xf0\x9f\x98\x80", 2*api.MaxFile) {
		t.Error("P2.2: Text of many runes")
	}
}

// TestPutLeavesSpareRoom: neither what b holds nor the room behind it is changed, and the answer is not b's memory.
func TestPutLeavesSpareRoom(t *testing.T) {
	room := []byte("abcdefgh")
	for _, r := range []rune{'z', 0xe4, 0x20ac, 0x1f600, -1} {
		one, _ := Put(room[:2], r)
		two, _ := Put(room[:2], 'y')
		if string(room) != "abcdefgh" {
			t.Fatalf("R6: Put(ab, %x) changed what it was given: %q", r, room)
		}
		if r >= 0 && string(one) != "ab"+string(r) {
			t.Errorf("R6: a later Put changed an answer: %q", one)
		}
		clear(one)
		clear(two)
		if string(room) != "abcdefgh" {
			t.Fatalf("R6: the answer of Put(ab, %x) shares memory with b", r)
		}
	}
}

func TestPutAnswersNewMemory(t *testing.T) {
	b := []byte("ab")
	longer, _ := Put(b, 'c')
	b[0] = 'x'
	if string(longer) != "abc" {
		t.Errorf("R6: Put kept its argument: %q", longer)
	}
	one, _ := Put(longer, 'd')
	two, _ := Put(longer, 'e')
	if string(one) != "abcd" || string(two) != "abce" {
		t.Errorf("R6: two answers share memory: %q, %q", one, two)
	}
}

func TestArgumentsStay(t *testing.T) {
	b := []byte("a\xc3\xa4\xff")
	l := Units(b)
	Next(b)
	if string(b) != "a\xc3\xa4\xff" {
		t.Errorf("R6: Units or Next changed what it was given: % x", b)
	}
	clear(b)
	if !slices.Equal(l, all([]byte("a\xc3\xa4\xff"))) {
		t.Errorf("R6: Units keeps what it was given: %v", l)
	}
	rs := []rune{'a', -1, 0x110000, 'b'}
	Text(rs...)
	if !slices.Equal(rs, []rune{'a', -1, 0x110000, 'b'}) {
		t.Errorf("R6: Text changed what it was given: %x", rs)
	}
}

// FuzzBytes holds every call against the chapter's words, at whatever bytes.
func FuzzBytes(f *testing.F) {
	for _, c := range wrong {
		f.Add(c.b)
	}
	f.Fuzz(func(t *testing.T, b []byte) {
		checkRow(t, b)
		var good []byte
		for _, u := range all(b) {
			if u.Rune >= 0 {
				good = append(good, b[u.Span.At:u.Span.At+u.Span.Len]...)
			}
		}
		if s := Text(Runes(string(b))...); s != string(good) {
			t.Fatalf("P2.2: Text(Runes(% x)) = % x, want % x", b, s, good)
		}
	})
}
