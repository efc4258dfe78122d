package dist

import (
	"math"
	"slices"
	"strings"
	"testing"

	"redpen/api"
)

// apart is the distance of a and b as the chapter writes it down: a table of d(i, k), each reckoned from its own cases.
func apart(a, b []rune) [][]int {
	d := make([][]int, len(a)+1)
	for i := range d {
		d[i] = make([]int, len(b)+1)
		for k := range d[i] {
			if k == 0 {
				d[i][k] = i
				continue
			}
			if i == 0 {
				d[i][k] = k
				continue
			}
			l := []int{d[i-1][k] + 1, d[i][k-1] + 1}
			if a[i-1] == b[k-1] {
				l = append(l, d[i-1][k-1])
			} else {
				l = append(l, d[i-1][k-1]+1)
			}
			if i >= 2 && k >= 2 && a[i-1] == b[k-2] && a[i-2] == b[k-1] {
				l = append(l, d[i-2][k-2]+1)
			}
			slices.Sort(l)
			d[i][k] = l[0]
		}
	}
	return d
}

// words are all words of up to n runes out of some.
func words(n int, runes ...rune) [][]rune {
	l := [][]rune{nil}
	for from, i := 0, 0; i < n; i++ {
		to := len(l)
		for _, w := range l[from:to] {
			for _, r := range runes {
				l = append(l, append(slices.Clone(w), r))
			}
		}
		from = to
	}
	return l
}

// hold holds Of, and the rows one by one, against the table.
func hold(t *testing.T, a, b []rune) {
	t.Helper()
	d := apart(a, b)
	want := d[len(a)][len(b)]
	if got := Of(a, b); got != want {
		t.Errorf("P8.1: Of(%q, %q): %d, not %d", string(a), string(b), got, want)
	}
	var before Row
	var prev rune = -2
	last := First(len(a))
	for k := 0; ; k++ {
		if len(last) != len(a)+1 {
			t.Fatalf("P8.2: row %d of %q, %q: %d", k, string(a), string(b), last)
		}
		for i, got := range last {
			if got != d[i][k] {
				t.Fatalf("P8.2: row %d of %q, %q: %d", k, string(a), string(b), last)
			}
		}
		if k == len(b) {
			break
		}
		last, before, prev = Next(a, last, before, prev, b[k]), last, b[k]
	}
	if last.Last() != want {
		t.Errorf("P8.2: Last of the rows of %q, %q: %d, not %d", string(a), string(b), last.Last(), want)
	}
}

func TestOfExamples(t *testing.T) {
	for _, c := range []struct {
		a, b string
		want int
	}{
		{"abcd", "acbd", 1},
		{"ca", "abc", 3},
		{"", "", 0},
		{"", "a", 1},
		{"a", "", 1},
		{"", "abc", 3},
		{"word", "word", 0},
		{"word", "words", 1},
		{"word", "sword", 1},
		{"word", "wored", 1},
		{"word", "wod", 1},
		{"word", "ord", 1},
		{"word", "wor", 1},
		{"word", "ward", 1},
		{"word", "lord", 1},
		{"word", "work", 1},
		{"word", "owrd", 1},
		{"word", "wrod", 1},
		{"word", "wodr", 1},
		{"word", "rowd", 2},
		{"word", "owdr", 2},
		{"word", "drow", 3},
		{"word", "xyzv", 4},
		{"abc", "cba", 2},
		{"ab", "bca", 3},
		{"ab", "ba", 1},
		{"aab", "aba", 1},
		{"abab", "baba", 2},
		{"kitten", "sitting", 3},
		{"teh", "the", 1},
		{"é", "e", 1},
		{"éa", "aé", 1},
		{"日本", "本日", 1},
		{"A", "a", 1},
	} {
		if got := Of([]rune(c.a), []rune(c.b)); got != c.want {
			t.Errorf("P8.1: Of(%q, %q): %d, not %d", c.a, c.b, got, c.want)
		}
		if got := Of([]rune(c.b), []rune(c.a)); got != c.want {
			t.Errorf("P8.1: Of(%q, %q): %d, not %d", c.b, c.a, got, c.want)
		}
		hold(t, []rune(c.a), []rune(c.b))
		hold(t, []rune(c.b), []rune(c.a))
	}
}

func TestOfAllSmallWords(t *testing.T) {
	three := words(4, 'a', 'b', 'c')
	for _, a := range three {
		for _, b := range three {
			hold(t, a, b)
		}
	}
	two := words(6, 'a', 'b')
	for _, a := range two {
		for _, b := range two {
			hold(t, a, b)
		}
	}
	abcd := words(5, 'a', 'b', 'c', 'd')
	for i, a := range abcd {
		for k := i % 37; k < len(abcd); k += 37 {
			hold(t, a, abcd[k])
		}
	}
}

func TestOfLongWords(t *testing.T) {
	long := []rune(strings.Repeat("abcdefghijklmnop", 5))
	other := []rune(strings.Repeat("badcfehgjilknmpo", 5))
	strange := []rune(strings.Repeat("é", 80))
	for _, c := range []struct {
		a, b []rune
		want int
	}{
		{long[:64], long[:64], 0},
		{long[:64], long[:63], 1},
		{long[:64], nil, 64},
		{nil, long[:64], 64},
		{long[:64], other[:64], 32},
		{long[:64], strange[:64], 64},
		{long[:65], long[:65], 65},
		{long[:65], long[:64], 65},
		{long[:64], long[:65], 65},
		{long[:65], nil, 65},
		{nil, long[:65], 65},
		{long[:65], long[:80], 80},
		{long[:80], long[:66], 80},
		{long[:1], long[:80], 80},
		{strange[:64], strange[:64], 0},
		{strange[:65], strange[:65], 65},
	} {
		if got := Of(c.a, c.b); got != c.want {
			t.Errorf("P8.1: Of words of %d and %d runes: %d, not %d", len(c.a), len(c.b), got, c.want)
		}
	}
	for n := range 65 {
		hold(t, long[:n], other[:64])
		hold(t, long[:64], other[:n])
		hold(t, long[:n], long[n%16:][:64])
	}
	great := make([]rune, 1<<20)
	if got := Of(great, great); got != 1<<20 {
		t.Errorf("P8.1: Of great words: %d", got)
	}
}

func TestOfRunesOfAnyValue(t *testing.T) {
	odd := words(3, 0, -1, -2, 0xD800, 0xFFFD, math.MaxInt32, math.MinInt32)
	for i, a := range odd {
		for k := i % 3; k < len(odd); k += 3 {
			hold(t, a, odd[k])
		}
	}
	if Of([]rune{-1}, []rune{-1}) != 0 || Of([]rune{-1}, []rune{0xFFFD}) != 1 {
		t.Error("P8.1: runes that are none")
	}
	// The first rune has none ahead of it: no rune may stand for that.
	for _, r := range []rune{0, -1, -2, math.MinInt32, math.MaxInt32} {
		if Of([]rune{'x', r}, []rune{'x'}) != 1 || Of([]rune{'y', r}, []rune{'x'}) != 2 {
			t.Errorf("P8.1: %d beside the first rune", r)
		}
	}
}

func TestFirst(t *testing.T) {
	for _, c := range []struct{ n, top int }{
		{math.MinInt, 0}, {-65, 0}, {-2, 0}, {-1, 0}, {0, 0}, {1, 1}, {2, 2}, {5, 5}, {63, 63}, {64, 64}, {65, 64}, {66, 64}, {1 << 40, 64}, {math.MaxInt, 64},
	} {
		row := First(c.n)
		if len(row) != c.top+1 {
			t.Errorf("P8.2: First(%d): %d", c.n, row)
			continue
		}
		for i, d := range row {
			if d != i {
				t.Errorf("P8.2: First(%d): %d", c.n, row)
				break
			}
		}
	}
	row := First(3)
	row[1] = 9
	if !slices.Equal(First(3), Row{0, 1, 2, 3}) {
		t.Error("P2: First hands out a row that was handed out before")
	}
}

func TestNextExamples(t *testing.T) {
	ab, ca := []rune("ab"), []rune("ca")
	for _, c := range []struct {
		word         []rune
		last, before Row
		prev, r      rune
		want         Row
	}{
		{ab, Row{0, 1, 2}, nil, -2, 'a', Row{1, 0, 1}},
		{ab, Row{0, 1, 2}, nil, -2, 'b', Row{1, 1, 1}},
		{ab, Row{1, 1, 1}, Row{0, 1, 2}, 'b', 'a', Row{2, 1, 1}},
		{ca, Row{0, 1, 2}, nil, 0, 'a', Row{1, 1, 1}},
		{ca, Row{1, 1, 1}, Row{0, 1, 2}, 'a', 'b', Row{2, 2, 2}},
		{ca, Row{2, 2, 2}, Row{1, 1, 1}, 'b', 'c', Row{3, 2, 3}},
		{nil, Row{0}, nil, 0, 'a', Row{1}},
		{nil, Row{7}, Row{6}, 'a', 'a', Row{8}},
		{[]rune{}, Row{-5}, nil, 0, 'a', Row{-4}},
		{ab[:1], Row{0, 1}, nil, 0, 'a', Row{1, 0}},
		{ab[:1], Row{1, 0}, Row{0, 1}, 'a', 'a', Row{2, 1}},
	} {
		if got := Next(c.word, c.last, c.before, c.prev, c.r); !slices.Equal(got, c.want) {
			t.Errorf("P8.2: Next(%q, %d, %d, %q, %q): %d, not %d", string(c.word), c.last, c.before, c.prev, c.r, got, c.want)
		}
	}
}

// A row before of another length is none: its numbers, and prev, count for nothing.
func TestNextRowBefore(t *testing.T) {
	word, last := []rune("ab"), Row{9, 9, 9}
	for _, before := range []Row{nil, {}, {0}, {0, 0}, {0, 0, 0, 0}, {0, 0, 0, 0, 0}, make(Row, 100)} {
		if got := Next(word, last, before, 'b', 'a'); !slices.Equal(got, Row{10, 9, 10}) {
			t.Errorf("P8.2: a row before of %d: %d", len(before), got)
		}
	}
	for n := range 10 {
		got := Next([]rune("abab"), Row{9, 9, 9, 9, 9}, make(Row, n), 'b', 'a')
		want := Row{10, 9, 10, 9, 10}
		if n == 5 {
			want = Row{10, 9, 1, 2, 1}
		}
		if !slices.Equal(got, want) {
			t.Errorf("P8.2: a row before of %d where 5 are wanted: %d", n, got)
		}
	}
	if got := Next(word, last, Row{0, 99, 99}, 'b', 'a'); !slices.Equal(got, Row{10, 9, 1}) {
		t.Errorf("P8.2: a row before of 3: %d", got)
	}
	for _, c := range []struct{ prev, r rune }{{'a', 'b'}, {'b', 'b'}, {'a', 'a'}, {'c', 'a'}, {'b', 'c'}} {
		got := Next(word, last, Row{0, 0, 0}, c.prev, c.r)
		if got.Last() < 9 {
			t.Errorf("P8.2: %q and %q changed places in %q: %d", c.prev, c.r, string(word), got)
		}
	}
}

func TestNextLastOfAnotherLength(t *testing.T) {
	for n := range 6 {
		word := []rune("abcdef")[:n]
		for rows := range 9 {
			last := make(Row, rows)
			for _, before := range []Row{nil, make(Row, rows), make(Row, n+1), make(Row, n)} {
				got := Next(word, last, before, 'a', 'b')
				want := 0
				if rows == n+1 {
					want = rows
				}
				if len(got) != want {
					t.Errorf("P8.2: a last row of %d for a word of %d: %d", rows, n, got)
				}
			}
		}
	}
	if len(Next(nil, nil, nil, 0, 0)) != 0 || len(Next([]rune("a"), nil, nil, 0, 0)) != 0 || len(Next([]rune("a"), nil, Row{0, 0}, 0, 0)) != 0 {
		t.Error("P8.2: a row behind no row")
	}
	// First stops at 64: of a longer word it is no row.
	if len(Next(make([]rune, 65), First(65), nil, 0, 0)) != 0 {
		t.Error("P8.2: a first row that is too short")
	}
}

// behind is the row behind last, by the cases of the recurrence one by one.
func behind(word []rune, last, before Row, prev, r rune) Row {
	row := Row{last[0] + 1}
	for i := 1; i <= len(word); i++ {
		l := []int{row[i-1] + 1, last[i] + 1, last[i-1] + 1}
		if word[i-1] == r {
			l[2] = last[i-1]
		}
		if i > 1 && len(before) == len(last) && word[i-1] == prev && word[i-2] == r {
			l = append(l, before[i-2]+1)
		}
		slices.Sort(l)
		row = append(row, l[0])
	}
	return row
}

// numbers is a list that goes on without a rule that is to be seen, the same each time.
func numbers(n int, from uint32) []int {
	l := make([]int, n)
	for i := range l {
		from = from*1664525 + 1013904223
		l[i] = int(from >> 16)
	}
	return l
}

func TestNextRowsOfWhateverNumbers(t *testing.T) {
	small := words(4, 'a', 'b')
	for i, word := range small {
		for seed := range 40 {
			l := numbers(2*len(word)+2, uint32(i*100+seed))
			for k := range l {
				l[k] = l[k]%12 - 6
			}
			last, before := Row(l[:len(word)+1]), Row(l[len(word)+1:])
			for _, prev := range []rune("abc") {
				for _, r := range []rune("abc") {
					got, want := Next(word, last, before, prev, r), behind(word, last, before, prev, r)
					if !slices.Equal(got, want) {
						t.Fatalf("P8.2: Next(%q, %d, %d, %q, %q): %d, not %d", string(word), last, before, prev, r, got, want)
					}
				}
			}
		}
	}
}

// Sums wrap round, as those of int do.
func TestNextGreatNumbers(t *testing.T) {
	const most, least = math.MaxInt, math.MinInt
	edges := []int{most, most - 1, least, least + 1, 0, -1}
	for i := range 6 * 6 * 6 {
		last := Row{edges[i/36], edges[i/6%6], edges[i%6]}
		for k := range edges {
			before := Row{edges[k], 0, 0}
			for _, prev := range []rune("ab") {
				for _, r := range []rune("ab") {
					got, want := Next([]rune("ab"), last, before, prev, r), behind([]rune("ab"), last, before, prev, r)
					if !slices.Equal(got, want) {
						t.Fatalf("P8.2: Next(ab, %d, %d, %q, %q): %d, not %d", last, before, prev, r, got, want)
					}
				}
			}
		}
	}
}

// Next knows no longest word: its row is as long as the one that it is given.
func TestNextLongWord(t *testing.T) {
	word := []rune(strings.Repeat("ab", 100))
	last, before := Row(numbers(201, 1)), Row(numbers(201, 2))
	if got, want := Next(word, last, before, 'b', 'a'), behind(word, last, before, 'b', 'a'); !slices.Equal(got, want) {
		t.Errorf("P8.2: a word of 200 runes: %d, not %d", got, want)
	}
}

func TestLeastAndLast(t *testing.T) {
	for _, c := range []struct {
		row         Row
		least, last int
	}{
		{nil, 0, 0},
		{Row{}, 0, 0},
		{Row{5}, 5, 5},
		{Row{-5}, -5, -5},
		{Row{1, 2, 3}, 1, 3},
		{Row{3, 2, 1}, 1, 1},
		{Row{3, 1, 2}, 1, 2},
		{Row{2, 2}, 2, 2},
		{Row{0, -1, 4}, -1, 4},
		{Row{math.MaxInt, math.MinInt, 0}, math.MinInt, 0},
		{Row{math.MaxInt}, math.MaxInt, math.MaxInt},
		{First(64), 0, 64},
	} {
		if c.row.Least() != c.least || c.row.Last() != c.last {
			t.Errorf("P8.2: of %d: least %d, last %d", c.row, c.row.Least(), c.row.Last())
		}
	}
}

// What is handed in stays, spare room included, and no answer shares its memory.
func TestNothingChangedOrShared(t *testing.T) {
	word, rows := []rune("abab?"), [][]int{{2, 1, 0, 1, 2, 77, 77}, {1, 0, 1, 2, 3, 88, 88}}
	last, before := Row(rows[0][:5]), Row(rows[1][:5])
	row := Next(word[:4], last, before, 'b', 'a')
	kept := slices.Clone(row)
	Of(word[:4], word[1:4])
	last.Least()
	last.Last()
	if string(word) != "abab?" || !slices.Equal(rows[0], []int{2, 1, 0, 1, 2, 77, 77}) || !slices.Equal(rows[1], []int{1, 0, 1, 2, 3, 88, 88}) {
		t.Errorf("P2: what was handed in is now %q, %d", string(word), rows)
	}
	for _, l := range rows {
		for i := range l {
			l[i] = -9
		}
	}
	if !slices.Equal(row, kept) {
		t.Error("P2: a row shares memory with one that was handed in")
	}
	again := Next(word[:4], Row{2, 1, 0, 1, 2}, Row{1, 0, 1, 2, 3}, 'b', 'a')
	again[0]++
	if !slices.Equal(row, kept) {
		t.Error("P2: two rows share memory")
	}
	if api.MaxWord != 64 {
		t.Error("the tests speak of 64 runes")
	}
}
