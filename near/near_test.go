package near

import (
	"math"
	"reflect"
	"slices"
	"strings"
	"testing"

	"redpen/api"
	"redpen/dist"
	"redpen/trie"
	"redpen/utf"
)

// made is a trie of words, whatever their order.
func made(t *testing.T, l ...string) *trie.Trie {
	t.Helper()
	l = slices.Sorted(slices.Values(l))
	x, e := trie.Make(l)
	if e != api.OK {
		t.Fatalf("Make(%.20q): %d", l, e)
	}
	return x
}

// told is what Words must answer: the distance is asked of each word, one by one; then for each distance the words are told, the preferred ones first.
func told(l []string, word string, most, k int, prefer ...string) []api.Near {
	l = slices.Sorted(slices.Values(l))
	signs := utf.Runes(word)
	apart := make([]int, len(l))
	for i, w := range l {
		apart[i] = dist.Of(utf.Runes(w), signs)
	}
	var all []api.Near
	for far := 0; far <= most; far++ {
		for _, preferred := range []bool{true, false} {
			for i, w := range l {
				if apart[i] == far && slices.Contains(prefer, w) == preferred {
					all = append(all, api.Near{Word: w, Dist: far})
				}
			}
		}
	}
	return all[:min(k, len(all))]
}

// hold holds an answer against what must be told.
func hold(t *testing.T, x *trie.Trie, word string, most, k int, prefer ...string) {
	t.Helper()
	want := told(x.Words(), word, most, k, prefer...)
	if got, e := Words(x, word, most, k, prefer...); e != api.OK || !slices.Equal(got, want) {
		t.Fatalf("P9.1: Words(%q, %d, %d, %q): %v, %d, not %v", word, most, k, prefer, got, e, want)
	}
}

// texts are all of up to n pieces out of some, but the empty one.
func texts(n int, pieces ...string) []string {
	var l []string
	longest := []string{""}
	for range n {
		var longer []string
		for _, s := range longest {
			for _, p := range pieces {
				longer = append(longer, s+p)
			}
		}
		l = append(l, longer...)
		longest = longer
	}
	return l
}

func TestExamples(t *testing.T) {
	x := made(t, "cat", "cot", "dog")
	for _, c := range []struct {
		word    string
		most, k int
		prefer  []string
		want    []api.Near
	}{
		{"cut", 1, 9, nil, []api.Near{{Word: "cat", Dist: 1}, {Word: "cot", Dist: 1}}},
		{"cut", 1, 9, []string{"cot"}, []api.Near{{Word: "cot", Dist: 1}, {Word: "cat", Dist: 1}}},
		{"cut", 1, 1, nil, []api.Near{{Word: "cat", Dist: 1}}},
		{"cut", 1, 1, []string{"cot"}, []api.Near{{Word: "cot", Dist: 1}}},
		{"cut", 3, 9, nil, []api.Near{{Word: "cat", Dist: 1}, {Word: "cot", Dist: 1}, {Word: "dog", Dist: 3}}},
		{"cut", 3, 9, []string{"dog"}, []api.Near{{Word: "cat", Dist: 1}, {Word: "cot", Dist: 1}, {Word: "dog", Dist: 3}}},
		{"cut", 0, 9, nil, nil},
		{"cot", 0, 9, nil, []api.Near{{Word: "cot", Dist: 0}}},
		{"cot", 1, 9, []string{"cat"}, []api.Near{{Word: "cot", Dist: 0}, {Word: "cat", Dist: 1}}},
		{"cto", 1, 9, nil, []api.Near{{Word: "cot", Dist: 1}}},
		{"ct", 1, 9, nil, []api.Near{{Word: "cat", Dist: 1}, {Word: "cot", Dist: 1}}},
		{"dot", 2, 9, nil, []api.Near{{Word: "cot", Dist: 1}, {Word: "dog", Dist: 1}, {Word: "cat", Dist: 2}}},
		{"Cat", 0, 9, nil, nil},
		{"Cat", 1, 9, []string{"Cat"}, []api.Near{{Word: "cat", Dist: 1}}},
	} {
		got, e := Words(x, c.word, c.most, c.k, c.prefer...)
		if e != api.OK || !slices.Equal(got, c.want) {
			t.Errorf("P9.1: Words(%q, %d, %d, %q): %v, %d, not %v", c.word, c.most, c.k, c.prefer, got, e, c.want)
		}
	}
}

// TestSmallWords: all words of few letters, against lists of all of them and of some.
func TestSmallWords(t *testing.T) {
	all := texts(4, "a", "b", "c")
	lists := [][]string{all, texts(1, "a"), texts(3, "a", "b"), all[3:12], all[12:39], all[39:]}
	for step := 2; step < 12; step += 3 {
		var l []string
		for i := step; i < len(all); i += step {
			l = append(l, all[i])
		}
		lists = append(lists, l)
	}
	words := append(texts(5, "a", "b"), all...)
	words = append(words, "", "d", "abd", "dab", "ddd", "dddd", "abcabc", "cbacba", "aaaaaa", "aaaaaaa", "aaaaaaaa")
	for n, l := range lists {
		x := made(t, l...)
		for i, word := range words {
			for most := range 4 {
				for _, k := range []int{0, 1, 2, 7, 32} {
					hold(t, x, word, most, k)
					hold(t, x, word, most, k, l[(i*7+n)%len(l)], l[(i*5+most)%len(l)], all[(i*3+k)%len(all)])
				}
			}
		}
	}
}

// TestAllChoices: every choice of words out of ten, with every third one preferred, and the others.
func TestAllChoices(t *testing.T) {
	words := []string{"a", "ab", "aba", "abab", "b", "ba", "bab", "baba", "c", "é"}
	asked := []string{"", "a", "ab", "bb", "aab", "abba", "baab", "éa", "aé", "xyz", "\xff"}
	for set := range 1 << len(words) {
		var l, some, others []string
		for i, s := range words {
			if set>>i&1 == 0 {
				continue
			}
			l = append(l, s)
			if i%3 == 1 {
				some = append(some, s)
			} else {
				others = append(others, s)
			}
		}
		x := made(t, l...)
		for i, word := range asked {
			most, k := (set+i)%4, 1+(set+i)%5
			hold(t, x, word, most, k)
			hold(t, x, word, most, k, some...)
			hold(t, x, word, most, k, others...)
			hold(t, x, word, 3, 32, some...)
		}
	}
}

// TestEquallyFar: the preferred ones are first, whichever they are, but not ahead of nearer ones; their own order counts for nothing.
func TestEquallyFar(t *testing.T) {
	l := []string{"bat", "cat", "fat", "hat", "mat", "pat", "rat", "sat", "at", "gate", "zats"}
	x := made(t, l...)
	for set := range 1 << len(l) {
		var prefer []string
		for i, s := range l {
			if set>>i&1 == 1 {
				prefer = append(prefer, s)
			}
		}
		for _, k := range []int{1, 3, 32} {
			hold(t, x, "zat", 2, k, prefer...)
		}
		slices.Reverse(prefer)
		hold(t, x, "gat", 2, 4, prefer...)
	}
	got, e := Words(x, "zat", 1, 4, "sat", "hat")
	want := []api.Near{{Word: "hat", Dist: 1}, {Word: "sat", Dist: 1}, {Word: "at", Dist: 1}, {Word: "bat", Dist: 1}}
	if e != api.OK || !slices.Equal(got, want) {
		t.Errorf("P9.1: two preferred: %v, %d", got, e)
	}
}

// TestPreferred: those that aren't in the trie, or too far, or there twice, change nothing.
func TestPreferred(t *testing.T) {
	x := made(t, "cat", "cot", "dog", "cuts", "é")
	plain, _ := Words(x, "cut", 1, 9)
	if len(plain) != 3 || plain[0].Word != "cat" || plain[1].Word != "cot" || plain[2].Word != "cuts" {
		t.Fatalf("P9.1: without preferred ones: %v", plain)
	}
	for _, prefer := range [][]string{
		nil, {}, {""}, {"cut"}, {"cit"}, {"dog"}, {"Cot"}, {"cot "}, {"co"}, {"cots"}, {"cat"}, {"cat", "cat"}, {"cat", "cot", "cuts"}, {"cuts", "cot", "cat"}, {"\xff"}, {"c\xfft"}, {"cot\xff"}, {"dog", "cut", "", "é"}, {strings.Repeat("cot", 1000)},
	} {
		if got, e := Words(x, "cut", 1, 9, prefer...); e != api.OK || !slices.Equal(got, plain) {
			t.Errorf("P9.1: %.20q preferred: %v, %d", prefer, got, e)
		}
	}
	for _, prefer := range [][]string{{"cot"}, {"cot", "cot"}, {"cot", "cut", "cot"}, {"dog", "cot"}, {"cot", "dog"}, {"Cat", "cot", ""}, {"\xff", "cot", "cot", "cot"}} {
		got, e := Words(x, "cut", 1, 9, prefer...)
		if e != api.OK || len(got) != 3 || got[0].Word != "cot" || got[1].Word != "cat" || got[2].Word != "cuts" {
			t.Errorf("P9.1: %q preferred: %v, %d", prefer, got, e)
		}
		got, e = Words(x, "cut", 1, 1, prefer...)
		if e != api.OK || len(got) != 1 || got[0] != (api.Near{Word: "cot", Dist: 1}) {
			t.Errorf("P9.1: one, %q preferred: %v, %d", prefer, got, e)
		}
	}
	many := slices.Repeat([]string{"cot", "x"}, 50000)
	if got, e := Words(x, "cut", 1, 9, many...); e != api.OK || len(got) != 3 || got[0].Word != "cot" {
		t.Errorf("P9.1: many preferred: %v, %d", got, e)
	}
}

// TestSigns: distances are counted in signs, not in bytes; bytes order those equally far.
func TestSigns(t *testing.T) {
	x := made(t, "ete", "été", "étés", "ête", "Ête", "слово", "слова", "日本", "日本語", "日", "😀", "😀😁", "😁", "\uffff", "\U00010000", "z", "\ufffd")
	for _, word := range []string{"", "été", "ete", "tée", "éte", "tété", "слов", "солво", "сдова", "本日", "日木", "語", "😂", "😁😀", "😀", "é", "z", "\ufffd", "\uffff", "\U00010001", "x"} {
		for most := range 4 {
			for _, k := range []int{0, 1, 3, 32} {
				hold(t, x, word, most, k)
				hold(t, x, word, most, k, "日", "ête", "слово", "\U00010000", "😁")
			}
		}
	}
	for _, c := range []struct {
		word string
		most int
		want []api.Near
	}{
		{"本日", 1, []api.Near{{Word: "日", Dist: 1}, {Word: "日本", Dist: 1}}},
		{"éte", 1, []api.Near{{Word: "ete", Dist: 1}, {Word: "Ête", Dist: 1}, {Word: "été", Dist: 1}, {Word: "ête", Dist: 1}}},
		{"словы", 1, []api.Near{{Word: "слова", Dist: 1}, {Word: "слово", Dist: 1}}},
		{"😁😀", 1, []api.Near{{Word: "😀", Dist: 1}, {Word: "😀😁", Dist: 1}, {Word: "😁", Dist: 1}}},
	} {
		got, e := Words(x, c.word, c.most, 32)
		if e != api.OK || !slices.Equal(got, c.want) {
			t.Errorf("P9.1: Words(%q, %d): %v, %d, not %v", c.word, c.most, got, e, c.want)
		}
	}
}

// TestNoSigns: a byte that is no sign is one of the word's signs, and the same as none of the trie's.
func TestNoSigns(t *testing.T) {
	x := made(t, "cat", "cot", "c", "ct", "\ufffd", "\ufffd\ufffd", "c\ufffdt", "ÿ", "cÿt", "\x7f", "é", "\x00")
	for _, word := range []string{
		"\xff", "\xff\xff", "c\xfft", "\xffc", "c\xff", "\xffcat", "cat\xff", "c\xffat", "\xc3", "\xa9", "\xa9\xc3", "\xc3c", "c\xc3t", "\xed\xa0\x80", "\xf4\x90\x80\x80", "\xc0\x80", "\x80", "\xef\xbf", "c\xef\xbft", "\xf0\x9f\x98", "\xff\xff\xff", "\xff\xff\xff\xff", "\xff\ufffd",
	} {
		for most := range 4 {
			hold(t, x, word, most, 32)
			hold(t, x, word, most, 2, "ÿ", word, "ct", "c\ufffdt")
		}
		if got, e := Words(x, word, 0, 32); e != api.OK || len(got) != 0 {
			t.Errorf("P9.1: at %q itself: %v, %d", word, got, e)
		}
	}
	got, e := Words(x, "c\xfft", 1, 32)
	want := []api.Near{{Word: "cat", Dist: 1}, {Word: "cot", Dist: 1}, {Word: "ct", Dist: 1}, {Word: "cÿt", Dist: 1}, {Word: "c\ufffdt", Dist: 1}}
	if e != api.OK || !slices.Equal(got, want) {
		t.Errorf("P9.1: a byte that is no sign: %v, %d", got, e)
	}
}

// TestMost: each greatest distance, up to the last word that is as far, and no further.
func TestMost(t *testing.T) {
	l := []string{"abcdef", "abcdeg", "abcdhg", "abcihg", "abjihg", "akjihg", "abcde", "abcd", "abc", "ab", "abcdefg", "abcdefgh", "abcdefghi", "abcdefghij", "bacdef", "badcef", "badcfe"}
	x := made(t, l...)
	for most, want := range []int{1, 5, 9, 13} {
		got, e := Words(x, "abcdef", most, 32)
		if e != api.OK || len(got) != want || got[0] != (api.Near{Word: "abcdef", Dist: 0}) || got[len(got)-1].Dist != most {
			t.Errorf("P9.1: Words(abcdef, %d): %v, %d", most, got, e)
		}
		hold(t, x, "abcdef", most, 32)
	}
}

// TestK: fewer words than k, as many, and more, cut within those equally far.
func TestK(t *testing.T) {
	var l []string
	for i := range 40 {
		l = append(l, "x"+string(rune('A'+i)))
	}
	x := made(t, l...)
	all, e := Words(x, "x", 1, 32)
	if e != api.OK || len(all) != 32 {
		t.Fatalf("P9.1: 32 of 40: %v, %d", all, e)
	}
	for i, n := range all {
		if n != (api.Near{Word: l[i], Dist: 1}) {
			t.Errorf("P9.1: 32 of 40, at %d: %v", i, n)
		}
	}
	for k := range 33 {
		for most := range 4 {
			hold(t, x, "x", most, k)
			hold(t, x, "xA", most, k, "xh", "xB", "xg")
			hold(t, x, "", most, k, "xh")
		}
	}
	few := made(t, l[:31]...)
	for k := 29; k <= 32; k++ {
		got, e := Words(few, "x", 3, k)
		if e != api.OK || len(got) != min(k, 31) {
			t.Errorf("P9.1: %d of 31: %d words, %d", k, len(got), e)
		}
	}
	for most := range 4 {
		if got, e := Words(x, "xA", most, 0, "xA"); e != api.OK || len(got) != 0 {
			t.Errorf("P9.1: none of 40: %v, %d", got, e)
		}
	}
}

func TestEmptyWord(t *testing.T) {
	x := made(t, "a", "b", "é", "ab", "éé", "abc", "ééé", "abcd", "éééé", "😀😀😀")
	for most, want := range [][]string{nil, {"a", "b", "é"}, {"a", "b", "é", "ab", "éé"}, {"a", "b", "é", "ab", "éé", "abc", "ééé", "😀😀😀"}} {
		got, e := Words(x, "", most, 32)
		if e != api.OK || len(got) != len(want) {
			t.Fatalf("P9.1: the empty word, %d: %v, %d", most, got, e)
		}
		for i, n := range got {
			if n != (api.Near{Word: want[i], Dist: len([]rune(want[i]))}) {
				t.Errorf("P9.1: the empty word, %d: %v", most, got)
			}
		}
		hold(t, x, "", most, 32, "ééé", "ab", "b", "")
	}
}

// TestListed: a word that is listed is the first, whatever is preferred.
func TestListed(t *testing.T) {
	l := texts(3, "a", "b")
	x := made(t, l...)
	for _, word := range l {
		for most := range 4 {
			got, e := Words(x, word, most, 1, l...)
			if e != api.OK || len(got) != 1 || got[0] != (api.Near{Word: word, Dist: 0}) {
				t.Errorf("P9.1: of %q, which is listed: %v, %d", word, got, e)
			}
			hold(t, x, word, most, 32, "aaa", "b")
		}
	}
}

// TestLong: words of up to 64 signs are looked for, however many bytes they have; longer ones are refused.
func TestLong(t *testing.T) {
	ab := strings.Repeat("ab", 32)
	x := made(t, ab, ab[:63], ab[:62], ab[:61], ab[:60], "b"+ab[:63], strings.Repeat("a", 64), strings.Repeat("é", 32), strings.Repeat("😀", 16), "x")
	for _, word := range []string{
		ab, ab[:63], ab[:62], ab[1:], ab[1:] + "a", "ba" + ab[2:], "baab" + ab[4:], ab[:62] + "ba", ab[:61] + "xxx", "x" + ab[1:63] + "x", strings.Repeat("b", 64),
		strings.Repeat("é", 31), strings.Repeat("é", 33), strings.Repeat("é", 35), strings.Repeat("é", 64), strings.Repeat("😀", 15), strings.Repeat("😀", 19), strings.Repeat("😀", 63), strings.Repeat("😀", 64), strings.Repeat("\xff", 64), ab[:60] + "\xff\xff\xff\xff", strings.Repeat("a", 61) + "\xf0\x9f\x98",
	} {
		for most := range 4 {
			hold(t, x, word, most, 32)
			hold(t, x, word, most, 2, ab[:62], ab[:61])
		}
	}
	got, e := Words(x, ab, 3, 32)
	if e != api.OK || len(got) != 5 || got[0] != (api.Near{Word: ab, Dist: 0}) || got[4] != (api.Near{Word: ab[:61], Dist: 3}) {
		t.Errorf("P9.1: a word of 64 signs: %v, %d", got, e)
	}
	for _, word := range []string{
		ab + "a", ab + "é", strings.Repeat("é", 65), strings.Repeat("😀", 65), strings.Repeat("😀", 64) + "a", "a" + strings.Repeat("😀", 64), strings.Repeat("a", 255), strings.Repeat("a", 256), strings.Repeat("a", 257),
		strings.Repeat("\xff", 65), ab + "\xff", strings.Repeat("a", 62) + "\xf0\x9f\x98", strings.Repeat("€", 65), strings.Repeat("a", 1<<20), strings.Repeat("\x00", 65),
	} {
		for most := range 4 {
			for _, k := range []int{0, 1, 32} {
				if got, e := Words(x, word, most, k, ab); e != api.ErrLong || len(got) != 0 {
					t.Errorf("P9.1: a word of %d signs: %v, %d", len(utf.Runes(word)), got, e)
				}
			}
		}
	}
}

func TestWrong(t *testing.T) {
	full, none := made(t, "cat", "cot"), made(t)
	right := func(n, top int) bool { return n >= 0 && n <= top }
	for _, x := range []*trie.Trie{full, none, nil, {}} {
		for _, most := range []int{math.MinInt, -1 << 32, -4, -3, -2, -1, 0, 1, 2, 3, 4, 5, 32, 64, 1 << 32, math.MaxInt} {
			for _, k := range []int{math.MinInt, -1 << 32, -33, -32, -2, -1, 0, 1, 9, 31, 32, 33, 34, 64, 1 << 32, math.MaxInt} {
				for _, word := range []string{"cut", "", "\xff", strings.Repeat("a", 64), strings.Repeat("a", 65), strings.Repeat("a", 1000)} {
					want := api.OK
					switch {
					case !right(most, 3) || !right(k, 32):
						want = api.ErrRange
					case len(word) > 64:
						want = api.ErrLong
					}
					got, e := Words(x, word, most, k, "cot")
					if e != want || e != api.OK && len(got) != 0 {
						t.Errorf("P9.1: Words(%.9q, %d, %d): %v, %d, not %d", word, most, k, got, e, want)
					}
				}
			}
		}
	}
}

// TestNoWords: of a nil trie, and of one without words, there are none, and that is no error.
func TestNoWords(t *testing.T) {
	for _, x := range []*trie.Trie{nil, made(t), {}} {
		for most := range 4 {
			for _, k := range []int{0, 1, 32} {
				for _, word := range []string{"", "a", "cut", "\xff", strings.Repeat("é", 64)} {
					if got, e := Words(x, word, most, k, "cut", ""); e != api.OK || len(got) != 0 {
						t.Errorf("P9.1: of no words: %v, %d", got, e)
					}
				}
			}
		}
	}
}

// ramble is a text of n letters that goes on without a rule that is to be seen, the same each time.
func ramble(n int, seed uint32) string {
	b := make([]byte, n)
	for i := range b {
		seed = seed*1664525 + 1013904223
		b[i] = "aeinorst"[seed>>29]
	}
	return string(b)
}

// TestWhole: as many words as there may be, as long as they may be and of all lengths.
func TestWhole(t *testing.T) {
	var long, all []string
	for i := range 8192 {
		long = append(long, ramble(64, uint32(i)))
		all = append(all, ramble(1+i%13, uint32(i)))
	}
	for _, l := range [][]string{long, all} {
		slices.Sort(l)
		l = slices.Compact(l)
		l = l[:min(4096, len(l))]
		x := made(t, l...)
		for i := 0; i < len(l); i += 1 + len(l)/4 {
			word := l[i]
			half := len(word) / 2
			hold(t, x, word, 3, 32)
			hold(t, x, word[:half]+"q"+word[half+1:], 3, 5)
			hold(t, x, word[1:], 2, 32, l[(i+1)%len(l)])
			hold(t, x, word[half:]+word[:half], 3, 32, l[i])
		}
	}
}

// TestKept: R6: what is handed in stays as it is, spare room included, and may be changed behind the call; so may answers.
func TestKept(t *testing.T) {
	l := []string{"cat", "cot", "dog"}
	x := made(t, l...)
	room := []string{"dog", "cot", "dog", "x", "y"}
	a, _ := Words(x, "cut", 3, 9, room[:3]...)
	if !slices.Equal(room, []string{"dog", "cot", "dog", "x", "y"}) {
		t.Errorf("R6: the preferred words are now %q", room)
	}
	want := []api.Near{{Word: "cot", Dist: 1}, {Word: "cat", Dist: 1}, {Word: "dog", Dist: 3}}
	for i := range room {
		room[i] = "cat"
	}
	b, _ := Words(x, "cut", 3, 9, "cot")
	if !slices.Equal(a, want) || !slices.Equal(b, want) {
		t.Errorf("R6, R8: %v, %v", a, b)
	}
	for i := range b {
		b[i] = api.Near{Word: "z", Dist: 99}
	}
	_ = append(b[:0], api.Near{})
	if !slices.Equal(a, want) {
		t.Errorf("R6: two answers share memory: %v", a)
	}
	if !slices.Equal(x.Words(), l) || x.Size() != 8 || !reflect.DeepEqual(x, made(t, l...)) {
		t.Errorf("R6: the trie was changed: %q", x.Words())
	}
}

// TestAgain: R8: the same is answered each time, whatever was asked between.
func TestAgain(t *testing.T) {
	x, y := made(t, texts(3, "a", "b", "c")...), made(t, "cat")
	first, _ := Words(x, "bad", 2, 32, "bc", "ac", "b")
	for range 20 {
		Words(x, "cab", 3, 32, "ab")
		Words(y, "bad", 2, 32, "cat")
		Words(nil, "bad", 2, 32)
		Words(x, "bad", 4, 32)
		if again, _ := Words(x, "bad", 2, 32, "bc", "ac", "b"); !slices.Equal(first, again) {
			t.Fatalf("R8: %v, then %v", first, again)
		}
	}
}

// TestLimits: the tests speak of the limits by their numbers.
func TestLimits(t *testing.T) {
	if api.MaxDist != 3 || api.MaxSuggest != 32 || api.MaxWord != 64 || api.MaxWords != 4096 {
		t.Error("the limits are others")
	}
}
