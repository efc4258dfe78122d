package trie

import (
	"fmt"
	"math"
	"reflect"
	"slices"
	"strings"
	"testing"
	"unicode/utf8"

	"redpen/api"
)

// made is a trie of words that must be right.
func made(t *testing.T, l []string) *Trie {
	t.Helper()
	x, e := Make(l)
	if e != api.OK || x == nil {
		t.Fatalf("P7.1: Make(%.20q): %d", l, e)
	}
	return x
}

// same: lists of the same items, nil or not.
func same[T comparable](x, y []T) bool {
	return slices.Equal(x, y)
}

// hold holds a trie against its words: by their beginnings, cut by hand, it asks all calls.
func hold(t *testing.T, x *Trie, l []string) {
	t.Helper()
	if x.Len() != len(l) {
		t.Errorf("P7.1: Len of %.20q: %d", l, x.Len())
	}
	if got := x.Words(); !same(got, l) {
		t.Errorf("P7.1: Words of %.20q: %.20q", l, got)
	}
	follow, words := map[string][]rune{"": nil}, map[string]bool{}
	for _, s := range l {
		words[s] = true
		for i, r := range s {
			if kids := follow[s[:i]]; !slices.Contains(kids, r) {
				follow[s[:i]] = append(kids, r)
			}
			longer := s[:i+utf8.RuneLen(r)]
			follow[longer] = follow[longer]
		}
	}
	if x.Size() != len(follow)-1 {
		t.Errorf("P7.2: Size of %.20q: %d, not %d", l, x.Size(), len(follow)-1)
	}
	numbers := map[int]string{}
	var walk func(at int, begin string)
	walk = func(at int, begin string) {
		if other, ok := numbers[at]; ok {
			t.Fatalf("P7.2: %q and %q of %.20q have the number %d", other, begin, l, at)
		}
		numbers[at] = begin
		want := slices.Sorted(slices.Values(follow[begin]))
		runes, kids := x.Kids(at)
		if !same(runes, want) || len(kids) != len(want) {
			t.Fatalf("P7.2: Kids of %q in %.20q: %q, %d", begin, l, runes, kids)
		}
		if x.Ends(at) != words[begin] {
			t.Errorf("P7.2: Ends at %q in %.20q: %v", begin, l, x.Ends(at))
		}
		if x.Has(begin) != words[begin] {
			t.Errorf("P7.1: Has(%q) in %.20q: %v", begin, l, x.Has(begin))
		}
		for i, r := range runes {
			walk(kids[i], begin+string(r))
		}
	}
	walk(x.Root(), "")
	if len(numbers) != len(follow) {
		t.Errorf("P7.2: of %.20q %d nodes are reached, not %d", l, len(numbers), len(follow))
	}
	nothing(t, x, numbers)
}

// nothing asks for numbers that no node has.
func nothing(t *testing.T, x *Trie, numbers map[int]string) {
	t.Helper()
	for _, at := range others(numbers) {
		if runes, kids := x.Kids(at); len(runes) != 0 || len(kids) != 0 {
			t.Errorf("P7.2: Kids(%d): %q, %d, though no node has this number", at, runes, kids)
		}
		if x.Ends(at) {
			t.Errorf("P7.2: Ends(%d), though no node has this number", at)
		}
	}
}

// others are numbers that aren't there: the nearest ones and the outermost.
func others(numbers map[int]string) []int {
	var l []int
	add := func(at int) {
		if _, ok := numbers[at]; !ok {
			l = append(l, at)
		}
	}
	for at := range numbers {
		add(at - 1)
		add(at + 1)
		add(-at)
	}
	for _, at := range []int{math.MinInt, math.MinInt32, -1, math.MaxInt32, math.MaxInt32 + 1, 1 << 32, math.MaxInt} {
		add(at)
	}
	return l
}

func TestOrdinary(t *testing.T) {
	for _, l := range [][]string{
		nil,
		{},
		{"a"},
		{"word"},
		{"a", "ab", "b"},
		{"a", "b", "c"},
		{"ab", "ac", "b"},
		{"a", "ab", "abc", "abcd"},
		{"abcd", "abce", "abd", "ac", "b"},
		{"Z", "a", "z"},
		{"do", "dog", "dogs", "don't", "dot", "x"},
		{"a", "aa", "aaa", "b", "ba", "bb"},
		{"abc", "abd", "bbc", "bbd"},
		{"e", "et", "é", "été", "êt"},
		{"été", "étés", "êtes", "ête€", "слова", "слово", "日", "日本", "😀", "😀😁", "😁"},
		{"a", "az", "a\u0080", "a\u07ff", "a\u0800", "a\uffff", "a\U00010000", "a\U0010ffff"},
		{"\x00", "\x00\x00", "\x01", "\n", " ", "\x7f"},
		{"\ufeff", "\ufffd", "\ufffd\ufffd", "\uffff"},
		{"\ud7ff", "\ue000"},
	} {
		hold(t, made(t, l), l)
	}
}

func TestExample(t *testing.T) {
	x := made(t, []string{"a", "ab", "b"})
	runes, kids := x.Kids(x.Root())
	if x.Size() != 3 || x.Len() != 3 || !same(runes, []rune{'a', 'b'}) || len(kids) != 2 {
		t.Fatalf("P7.2: Size %d, Kids of the root: %q, %d", x.Size(), runes, kids)
	}
	if runes, below := x.Kids(kids[0]); !same(runes, []rune{'b'}) || len(below) != 1 || !x.Ends(below[0]) {
		t.Errorf("P7.2: Kids of a: %q, %d", runes, below)
	}
	if runes, below := x.Kids(kids[1]); len(runes) != 0 || len(below) != 0 {
		t.Errorf("P7.2: Kids of b: %q, %d", runes, below)
	}
	if x.Ends(x.Root()) || !x.Ends(kids[0]) || !x.Ends(kids[1]) {
		t.Error("P7.2: Ends")
	}
}

func TestNoWords(t *testing.T) {
	for _, l := range [][]string{nil, {}, make([]string, 0, 9)} {
		x, e := Make(l)
		if x == nil || e != api.OK {
			t.Fatalf("P7.1: Make of no words: %v, %d", x, e)
		}
		if x.Len() != 0 || x.Size() != 0 || len(x.Words()) != 0 || x.Has("") || x.Has("a") || x.Ends(x.Root()) {
			t.Error("P7.1, P7.2: a trie of no words")
		}
		hold(t, x, nil)
	}
}

func TestHas(t *testing.T) {
	x := made(t, []string{"do", "don't", "été", "\ufffd", "\ufffdx"})
	for _, c := range []struct {
		s    string
		want bool
	}{
		{"do", true}, {"don't", true}, {"été", true}, {"\ufffd", true}, {"\ufffdx", true},
		{"", false}, {"d", false}, {"don", false}, {"don'", false}, {"dot", false}, {"don'ts", false}, {"Do", false}, {"DO", false}, {" do", false}, {"do ", false},
		{"o", false}, {"e", false}, {"ét", false}, {"ete", false}, {"étés", false}, {"e\u0301te\u0301", false},
		{"\xff", false}, {"\xffx", false}, {"\xef", false}, {"\xef\xbf", false}, {"\xef\xbf\xbd\xff", false}, {"\xc3", false}, {"\xc3\xa9t\xc3", false}, {"do\xff", false}, {"\xffdo", false},
		{"\xed\xa0\x80", false}, {"\xf4\x90\x80\x80", false}, {"\xc1\xa4o", false}, {"do\x00", false}, {"\x00", false},
		{strings.Repeat("do", 40), false}, {"do" + strings.Repeat("\x00", 1<<20), false},
	} {
		if got := x.Has(c.s); got != c.want {
			t.Errorf("P7.1: Has(%.20q): %v", c.s, got)
		}
	}
}

// asked is what Make must answer, told by hand.
func asked(l []string) api.Errno {
	for i, s := range l {
		switch {
		case len(s) == 0:
			return api.ErrWord
		case i > 0 && strings.Compare(l[i-1], s) >= 0:
			return api.ErrOrder
		case len(s) > 64:
			return api.ErrLong
		case i == 4096:
			return api.ErrMany
		case !utf8.ValidString(s):
			return api.ErrWord
		}
	}
	return api.OK
}

func TestWrong(t *testing.T) {
	long := strings.Repeat("m", 65)
	for _, c := range []struct {
		l    []string
		want api.Errno
	}{
		{[]string{""}, api.ErrWord}, {[]string{"", "a"}, api.ErrWord}, {[]string{"a", ""}, api.ErrWord}, {[]string{"", ""}, api.ErrWord}, {[]string{"a", "b", "", "c"}, api.ErrWord},
		{[]string{"b", "a"}, api.ErrOrder}, {[]string{"a", "a"}, api.ErrOrder}, {[]string{"ab", "a"}, api.ErrOrder}, {[]string{"a", "b", "b"}, api.ErrOrder}, {[]string{"a", "Z"}, api.ErrOrder},
		{[]string{"a", "c", "b"}, api.ErrOrder}, {[]string{"b", "c", "a"}, api.ErrOrder}, {[]string{"é", "z"}, api.ErrOrder}, {[]string{"\U00010000", "\uffff"}, api.ErrOrder},
		{[]string{long}, api.ErrLong}, {[]string{"a", long}, api.ErrLong}, {[]string{long, "z"}, api.ErrLong}, {[]string{strings.Repeat("z", 1<<20)}, api.ErrLong},
		{[]string{strings.Repeat("é", 32) + "a"}, api.ErrLong}, {[]string{strings.Repeat("é", 33)}, api.ErrLong},
		{[]string{"\xff"}, api.ErrWord}, {[]string{"a", "b\xff"}, api.ErrWord}, {[]string{"\xffa"}, api.ErrWord}, {[]string{"a\xffb"}, api.ErrWord}, {[]string{"a\xc3"}, api.ErrWord},
		{[]string{"\x80"}, api.ErrWord}, {[]string{"\xc0\x80"}, api.ErrWord}, {[]string{"\xed\xa0\x80"}, api.ErrWord}, {[]string{"\xed\xbf\xbf"}, api.ErrWord}, {[]string{"\xf4\x90\x80\x80"}, api.ErrWord}, {[]string{"\xf0\x9f\x98"}, api.ErrWord},
		{[]string{"a\xff", "b"}, api.ErrWord},
		// Wrong in two ways: the first of the sentence.
		{[]string{"a", long, long}, api.ErrLong}, {[]string{"n", long}, api.ErrOrder}, {[]string{"n", "\x80"}, api.ErrWord}, {[]string{"\u0080", "a\xff"}, api.ErrOrder},
		{[]string{strings.Repeat("\xff", 65)}, api.ErrLong}, {[]string{strings.Repeat("m", 64) + "\xff"}, api.ErrLong}, {[]string{"\xff", "\xfe"}, api.ErrWord},
		// Wrong in two words: the first of them.
		{[]string{"b", "a", ""}, api.ErrOrder}, {[]string{"b", "a", long}, api.ErrOrder}, {[]string{"b", long, "\xff"}, api.ErrLong}, {[]string{"b", "a", "\xff"}, api.ErrOrder},
		{[]string{"a", long, ""}, api.ErrLong}, {[]string{"a\xff", "a"}, api.ErrWord}, {[]string{"a\xff", ""}, api.ErrWord}, {[]string{"a", "b\xff", long}, api.ErrWord},
	} {
		if x, e := Make(c.l); x != nil || e != c.want || asked(c.l) != c.want {
			t.Errorf("P7.1: Make(%.20q): %v, %d, not %d (the tests' own: %d)", c.l, x, e, c.want, asked(c.l))
		}
	}
}

// many are so many words that rise.
func many(n int) []string {
	var l []string
	for i := range n {
		l = append(l, fmt.Sprintf("w%04d", i))
	}
	return l
}

func TestLong(t *testing.T) {
	for _, l := range [][]string{
		{strings.Repeat("a", 63)}, {strings.Repeat("a", 64)}, {"a", strings.Repeat("a", 63), strings.Repeat("a", 64), "b"},
		{strings.Repeat("é", 32)}, {strings.Repeat("€", 21) + "a"}, {strings.Repeat("😀", 16)},
		{strings.Repeat("a", 63) + "b", strings.Repeat("a", 63) + "c", strings.Repeat("b", 64)},
	} {
		x := made(t, l)
		hold(t, x, l)
		for _, s := range l {
			if x.Has(s+"z") || x.Has(s+"\x00") || x.Has(s+s) {
				t.Errorf("P7.1: Has of more than %q", s)
			}
		}
	}
}

func TestMany(t *testing.T) {
	for _, n := range []int{4095, 4096} {
		hold(t, made(t, many(n)), many(n))
	}
	for _, c := range []struct {
		more []string
		want api.Errno
	}{
		{[]string{"x"}, api.ErrMany}, {[]string{"x", "y"}, api.ErrMany}, {[]string{"x", ""}, api.ErrMany}, {[]string{"x", "a"}, api.ErrMany},
		{[]string{""}, api.ErrWord}, {[]string{"w4095"}, api.ErrOrder}, {[]string{"a"}, api.ErrOrder}, {[]string{strings.Repeat("x", 64)}, api.ErrMany}, {[]string{strings.Repeat("x", 65)}, api.ErrLong},
		{[]string{strings.Repeat("a", 65)}, api.ErrOrder}, {[]string{"x\xff"}, api.ErrMany}, {[]string{"a\xff"}, api.ErrOrder}, {[]string{strings.Repeat("\xff", 65)}, api.ErrLong},
	} {
		l := append(many(4096), c.more...)
		if x, e := Make(l); x != nil || e != c.want || asked(l) != c.want {
			t.Errorf("P7.1: Make of 4096 words and %.20q: %v, %d, not %d", c.more, x, e, c.want)
		}
	}
	for _, c := range []struct {
		at   int
		s    string
		want api.Errno
	}{
		{0, "", api.ErrWord}, {0, "a\xff", api.ErrWord}, {0, strings.Repeat("a", 65), api.ErrLong}, {0, "x", api.ErrOrder},
		{4095, "", api.ErrWord}, {4095, "w4095\xff", api.ErrWord}, {4095, strings.Repeat("x", 65), api.ErrLong}, {4095, "w4094", api.ErrOrder}, {4095, "w40949", api.ErrMany},
	} {
		l := many(5000)
		l[c.at] = c.s
		if x, e := Make(l); x != nil || e != c.want || asked(l) != c.want {
			t.Errorf("P7.1: Make of 5000 words, %.20q at %d: %v, %d, not %d", c.s, c.at, x, e, c.want)
		}
	}
}

// TestWhole: as many words as there may be, as long as they may be, told apart by their first two runes, or by their last two.
func TestWhole(t *testing.T) {
	var first, behind []string
	for i := range 4096 {
		two := string([]rune{rune(0x100 + i/64), rune(0x400 + i%64)})
		first = append(first, two+strings.Repeat("x", 60))
		behind = append(behind, strings.Repeat("x", 60)+two)
	}
	x, y := made(t, first), made(t, behind)
	hold(t, x, first)
	hold(t, y, behind)
	if x.Size() != 64+4096*61 || y.Size() != 60+64+4096 {
		t.Errorf("P7.2: Size: %d, %d", x.Size(), y.Size())
	}
}

// TestAllLists: all lists of three words, right and wrong ones.
func TestAllLists(t *testing.T) {
	pieces := []string{"", "a", "b", "é", "aa", "ab", "aé", "éa", "€", "\xff", "a\xff", "\xc3", "\xc3b", strings.Repeat("a", 64), strings.Repeat("a", 65), "b" + strings.Repeat("\xff", 64)}
	for _, x := range pieces {
		for _, y := range pieces {
			for _, z := range pieces {
				l := []string{x, y, z}
				got, e := Make(l)
				if want := asked(l); e != want || (got == nil) != (want != api.OK) {
					t.Fatalf("P7.1: Make(%.9q): %d, not %d", l, e, want)
				}
				if e == api.OK {
					hold(t, got, l)
				}
			}
		}
	}
}

// TestAllThatRise: every choice of words out of twelve.
func TestAllThatRise(t *testing.T) {
	words := []string{"a", "aa", "aab", "ab", "abb", "aé", "b", "ba", "bé", "é", "éa", "éé"}
	for set := range 1 << len(words) {
		var l []string
		for i, s := range words {
			if set>>i&1 == 1 {
				l = append(l, s)
			}
		}
		x := made(t, l)
		hold(t, x, l)
		for i, s := range words {
			if x.Has(s) != (set>>i&1 == 1) {
				t.Fatalf("P7.1: Has(%q) in %q", s, l)
			}
		}
	}
}

// TestEveryRune: each that may stand in a word does, alone, and is told from its neighbours.
func TestEveryRune(t *testing.T) {
	var l []string
	ask := func() {
		x := made(t, l)
		if !same(x.Words(), l) || x.Size() != len(l) {
			t.Fatalf("P7.1: Words of %q to %q", l[0], l[len(l)-1])
		}
		runes, _ := x.Kids(x.Root())
		for i, s := range l {
			if !x.Has(s) || string(runes[i]) != s {
				t.Fatalf("P7.1, P7.2: %q", s)
			}
		}
		if x.Has(string([]rune(l[0])[0]-1)) || x.Has(l[0]+l[0]) {
			t.Fatalf("P7.1: Has of a neighbour of %q", l[0])
		}
		l = nil
	}
	for r := rune(0); r <= utf8.MaxRune; r++ {
		if utf8.ValidRune(r) {
			l = append(l, string(r))
		}
		if len(l) == 4096 {
			ask()
		}
	}
	if len(l) > 0 {
		ask()
	}
}

// TestNil: R7; and a trie that Make didn't make is one of no words.
func TestNil(t *testing.T) {
	for name, x := range map[string]*Trie{"nil": nil, "a new one": {}} {
		if x.Len() != 0 || x.Size() != 0 || x.Root() != 0 || len(x.Words()) != 0 {
			t.Errorf("R7: %s: Len %d, Size %d, Root %d, Words %q", name, x.Len(), x.Size(), x.Root(), x.Words())
		}
		for _, s := range []string{"", "a", "\xff", strings.Repeat("a", 65)} {
			if x.Has(s) {
				t.Errorf("R7: %s has %.9q", name, s)
			}
		}
		nothing(t, x, nil)
		nothing(t, x, map[int]string{1: "", 2: ""})
	}
}

// TestKept: R6: what is handed in stays as it is, and may be changed behind the call; so may answers.
func TestKept(t *testing.T) {
	words := []string{"a", "ab", "b", "é"}
	room := append(slices.Clone(words), "x", "y")
	x := made(t, room[:4])
	if !reflect.DeepEqual(room, []string{"a", "ab", "b", "é", "x", "y"}) {
		t.Errorf("R6: Make has changed its list: %q", room)
	}
	for i := range room {
		room[i] = "zz"
	}
	hold(t, x, words)
	for i := range x.Words() {
		got := x.Words()
		got[i] = "zz"
		_ = append(got[:i], "yy")
	}
	hold(t, x, words)
	runes, kids := x.Kids(x.Root())
	for i := range runes {
		runes[i], kids[i] = 'z', 99
	}
	clear(runes[:cap(runes)])
	clear(kids[:cap(kids)])
	hold(t, x, words)
	runes, _ = x.Kids(x.Root())
	again, _ := x.Kids(x.Root())
	runes[0] = 'z'
	if again[0] != 'a' {
		t.Error("R6: two answers of Kids are the same memory")
	}
}

// TestAgain: R8: tries of the same words answer the same, whatever was asked of others.
func TestAgain(t *testing.T) {
	l := []string{"do", "dog", "don't", "été"}
	x, y := made(t, l), made(t, l)
	made(t, []string{"other"}).Has("do")
	if !reflect.DeepEqual(x, y) || !same(x.Words(), y.Words()) {
		t.Error("R8: two tries of the same words differ")
	}
}
