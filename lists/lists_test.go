package lists

import (
	"bytes"
	"errors"
	"fmt"
	"reflect"
	"regexp"
	"slices"
	"sort"
	"strings"
	"testing"
	"unicode/utf8"

	"redpen/api"
	"redpen/fault"
)

// letters are all letters of chapter 4, as a class of a pattern.
const letters = `[A-Za-z\x{c0}-\x{d6}\x{d8}-\x{f6}\x{f8}-\x{24f}\x{370}-\x{52f}]`

// listed is what a listed word looks like.
var listed = regexp.MustCompile(`^` + letters + `+('` + letters + `+)*$`)

// checked is what Check must answer.
func checked(s string) api.Errno {
	switch {
	case len(s) > 64:
		return api.ErrLong
	case !utf8.ValidString(s) || !listed.MatchString(s):
		return api.ErrWord
	}
	return api.OK
}

// texts hands over all texts of up to so many pieces.
func texts(pieces []string, most int, take func(string)) {
	take("")
	level := []string{""}
	for range most {
		var next []string
		for _, s := range level {
			for _, p := range pieces {
				take(s + p)
				next = append(next, s+p)
			}
		}
		level = next
	}
}

func TestCheck(t *testing.T) {
	for _, c := range []struct {
		s    string
		want api.Errno
	}{
		{"a", api.OK}, {"Word", api.OK}, {"don't", api.OK}, {"rock'n'roll", api.OK}, {"a'b", api.OK}, {"a'b'c", api.OK},
		{"Straße", api.OK}, {"ÉTÉ", api.OK}, {"слово", api.OK}, {"λόγος", api.OK}, {"ÿ", api.OK}, {"\u024f", api.OK}, {"\u0370", api.OK}, {"\u052f", api.OK},
		{"", api.ErrWord}, {"'", api.ErrWord}, {"'x", api.ErrWord}, {"x'", api.ErrWord}, {"a''b", api.ErrWord}, {"a'''b", api.ErrWord}, {"''", api.ErrWord},
		{"a b", api.ErrWord}, {" a", api.ErrWord}, {"a ", api.ErrWord}, {"a\n", api.ErrWord}, {"a\t", api.ErrWord}, {"a\r", api.ErrWord}, {"a\x00", api.ErrWord},
		{"1x", api.ErrWord}, {"x1", api.ErrWord}, {"a-b", api.ErrWord}, {"a_b", api.ErrWord}, {"a.b", api.ErrWord}, {"#", api.ErrWord}, {"a#", api.ErrWord}, {"->", api.ErrWord},
		{"×", api.ErrWord}, {"÷", api.ErrWord}, {"a×b", api.ErrWord}, {"\u0250", api.ErrWord}, {"\u036f", api.ErrWord}, {"\u0530", api.ErrWord}, {"don’t", api.ErrWord}, {"日", api.ErrWord},
		{"\xff", api.ErrWord}, {"a\xff", api.ErrWord}, {"a\xffb", api.ErrWord}, {"\xc3", api.ErrWord}, {"a\xc3", api.ErrWord}, {"\xc1\x81", api.ErrWord}, {"\xed\xa0\x80", api.ErrWord},
		{"\ufeffa", api.ErrWord}, {"\ufffd", api.ErrWord}, {"`a", api.ErrWord}, {"a`b", api.ErrWord},
	} {
		if got := Check(c.s); got != c.want || checked(c.s) != c.want {
			t.Errorf("P6.1: Check(%q): %d, not %d (the tests' own: %d)", c.s, got, c.want, checked(c.s))
		}
	}
}

func TestCheckLong(t *testing.T) {
	for _, c := range []struct {
		s    string
		want api.Errno
	}{
		{strings.Repeat("a", 63), api.OK}, {strings.Repeat("a", 64), api.OK}, {strings.Repeat("a", 65), api.ErrLong}, {strings.Repeat("a", 1<<20), api.ErrLong},
		{strings.Repeat("é", 32), api.OK}, {strings.Repeat("é", 33), api.ErrLong}, {strings.Repeat("é", 32) + "a", api.ErrLong}, {strings.Repeat("é", 31) + "aa", api.OK},
		{strings.Repeat("a'", 31) + "aa", api.OK}, {strings.Repeat("a'", 32), api.ErrWord}, {strings.Repeat("a'", 32) + "a", api.ErrLong},
		{strings.Repeat("1", 64), api.ErrWord}, {strings.Repeat("1", 65), api.ErrLong}, {strings.Repeat("\xff", 65), api.ErrLong}, {strings.Repeat(" ", 65), api.ErrLong},
	} {
		if got := Check(c.s); got != c.want {
			t.Errorf("P6.1: Check of %d bytes (%.5q): %d, not %d", len(c.s), c.s, got, c.want)
		}
	}
}

func TestCheckEveryRune(t *testing.T) {
	for r := rune(0); r <= 0x10ffff; r++ {
		s := string(r)
		if got := Check(s); got != checked(s) {
			t.Errorf("P6.1: Check of %x: %d", r, got)
		}
	}
}

func TestCheckAllShortTexts(t *testing.T) {
	texts([]string{"a", "Z", "é", "д", "'", "’", "×", "1", " ", "\xff"}, 5, func(s string) {
		if got := Check(s); got != checked(s) {
			t.Errorf("P6.1: Check(%q): %d, not %d", s, got, checked(s))
		}
	})
}

// wrong is the error of a list that is told on a line.
func wrong(list string, line int, e api.Errno) error {
	return &fault.At{List: list, Line: line, Err: e}
}

// tooLong is the error of a line's length.
func tooLong(list string, line int) error {
	return &fault.At{List: list, Line: 0, Err: &fault.At{List: "", Line: line, Err: api.ErrLong}}
}

// lower is a text in small letters, for those letters that the tests use.
func lower(s string) string {
	return strings.NewReplacer("A", "a", "B", "b", "C", "c", "T", "t", "Z", "z", "É", "é", "Þ", "þ").Replace(s)
}

// rowsOf are the rows of bytes that aren't empty, with their lines, cut byte by byte; or the error of a line's length.
func rowsOf(list string, b []byte) (rows []string, at []int, err error) {
	line, row, remark, size := 1, "", false, 0
	end := func() {
		if size > 4096 && err == nil {
			err = tooLong(list, line)
		}
		row = strings.TrimFunc(row, func(r rune) bool { return r == ' ' || r == 9 || r == 13 || r == 10 })
		if row != "" {
			rows, at = append(rows, row), append(at, line)
		}
		line, row, remark, size = line+1, "", false, 0
	}
	for _, c := range b {
		size++
		remark = remark || c == '#'
		if !remark {
			row += string([]byte{c})
		}
		if c == 10 {
			end()
		}
	}
	end()
	return rows, at, err
}

// wordsOf is what Words must answer.
func wordsOf(b []byte) ([]string, error) {
	rows, at, err := rowsOf("words", b)
	if err != nil {
		return nil, err
	}
	var out []string
	for i, row := range rows {
		if e := checked(row); e != api.OK {
			return nil, wrong("words", at[i], e)
		}
		if i == 4096 {
			return nil, wrong("words", at[i], api.ErrMany)
		}
		if w := lower(row); !slices.Contains(out, w) {
			out = append(out, w)
		}
	}
	sort.Strings(out)
	return out, nil
}

// holdWords asks Words of bytes; it must not change them.
func holdWords(t *testing.T, text string, want []string, wantErr error) {
	t.Helper()
	b := append(make([]byte, 0, len(text)+9), text...)
	room := b[len(b):cap(b)]
	got, err := Words(b)
	if !slices.Equal(got, want) || !reflect.DeepEqual(err, wantErr) {
		t.Errorf("P6.2: Words(%.60q): %.9q, %v; not %.9q, %v", text, got, told(err), want, told(wantErr))
	}
	if string(b) != text || bytes.ContainsFunc(room, func(r rune) bool { return r != 0 }) {
		t.Errorf("R6: Words(%.60q) changed them", text)
	}
	if err != nil && got != nil {
		t.Errorf("R3: Words(%.60q): a list beside an error", text)
	}
}

// told is an error's layers.
func told(err error) string {
	var l []string
	for err != nil {
		list, line, ok := fault.Where(err)
		if !ok {
			return strings.Join(append(l, fmt.Sprint(int(fault.Code(err)))), " ")
		}
		l = append(l, fmt.Sprintf("%q:%d", list, line))
		err = fault.Inner(err)
	}
	return strings.Join(append(l, "nil"), " ")
}

func TestWords(t *testing.T) {
	for _, c := range []struct {
		text string
		want []string
	}{
		{"b\nA\nb", []string{"a", "b"}},
		{"", nil}, {"\n", nil}, {"\n\n\n", nil}, {" ", nil}, {" \t\r\n", nil}, {"#", nil}, {"# a\n", nil}, {"  # a\n#b\n##\n", nil},
		{"a", []string{"a"}}, {"a\n", []string{"a"}}, {"\na", []string{"a"}}, {"a\n\n", []string{"a"}}, {"a\r\n", []string{"a"}}, {"a\r", []string{"a"}}, {"\r\ra\r\r\n", []string{"a"}},
		{" a ", []string{"a"}}, {"\ta\t\n", []string{"a"}}, {" \t \r a \r\t \n", []string{"a"}},
		{"a#b", []string{"a"}}, {"a # b\nc#", []string{"a", "c"}}, {"a #b # c\n#d\ne", []string{"a", "e"}},
		{"a # 1x ->\n", []string{"a"}}, {"a # \xff\n", []string{"a"}},
		{"the\nThe\nTHE\nthe", []string{"the"}},
		{"don't\nDON'T\n", []string{"don't"}},
		{"ÉTÉ\nété\nZ\nÞ\n", []string{"z", "été", "þ"}},
		{"Дом\nдом", []string{"Дом", "дом"}},
		{"ab\na\nabc\nb\na'b", []string{"a", "a'b", "ab", "abc", "b"}},
		{"é\nz\na", []string{"a", "z", "é"}},
	} {
		holdWords(t, c.text, c.want, nil)
	}
}

func TestWordsWrong(t *testing.T) {
	for _, c := range []struct {
		text string
		line int
		e    api.Errno
	}{
		{"1x", 1, api.ErrWord}, {"a\n\n1x\n", 3, api.ErrWord}, {"# x\n\n \na b\n", 4, api.ErrWord}, {"a\n'b", 2, api.ErrWord}, {"a\nb'\n", 2, api.ErrWord},
		{"a\n\xff\nb", 2, api.ErrWord}, {"\xffa", 1, api.ErrWord}, {"a\xc3", 1, api.ErrWord}, {"\xc3\n\xa9", 1, api.ErrWord},
		{"a\rb", 1, api.ErrWord}, {"a\tb", 1, api.ErrWord}, {"a,b", 1, api.ErrWord}, {"\x00", 1, api.ErrWord}, {"a\v", 1, api.ErrWord}, {"\ufeffa\n", 1, api.ErrWord}, {"a\u00a0\n", 1, api.ErrWord},
		{"teh -> the", 1, api.ErrWord},
		{"a\n" + strings.Repeat("b", 65), 2, api.ErrLong}, {strings.Repeat("1", 65), 1, api.ErrLong}, {"1\n" + strings.Repeat("b", 65), 1, api.ErrWord},
		{strings.Repeat("b", 65) + "\n1", 1, api.ErrLong}, {"  " + strings.Repeat("é", 33) + " # x\n", 1, api.ErrLong},
	} {
		holdWords(t, c.text, nil, wrong("words", c.line, c.e))
	}
}

// lineOf is a line of so many bytes, with its newline, that holds one word.
func lineOf(word string, n int) string {
	return word + strings.Repeat(" ", n-len(word)-1) + "\n"
}

func TestWordsLongLines(t *testing.T) {
	full := strings.Repeat("x", 64)
	for _, c := range []struct {
		text string
		want []string
		line int
	}{
		{full, []string{full}, 0}, {" " + full + "\t\r\n", []string{full}, 0},
		{lineOf("a", 4096), []string{"a"}, 0}, {lineOf("a", 4097), nil, 1},
		{"a" + strings.Repeat(" ", 4095), []string{"a"}, 0}, {"a" + strings.Repeat(" ", 4096), nil, 1},
		{"a" + strings.Repeat(" ", 4095) + "\n", nil, 1},
		{strings.Repeat("\r", 4095) + "\n" + lineOf("b", 4096), []string{"b"}, 0},
		{"#" + strings.Repeat("é", 2047), nil, 0}, {"#" + strings.Repeat("é", 2047) + "\n", nil, 0}, {"#" + strings.Repeat("é", 2048) + "\n", nil, 1},
		{"a\n\n" + lineOf("b", 4097) + "c", nil, 3}, {"a\n" + lineOf("b", 4096) + "c" + strings.Repeat("#", 4096), nil, 3},
		{"1\n" + lineOf("b", 4097), nil, 2}, {"1\n\xff\n" + strings.Repeat(" ", 4097), nil, 3},
		{lineOf("b", 5000) + lineOf("c", 6000), nil, 1}, {strings.Repeat("a", 1<<16), nil, 1},
		{strings.Repeat("\n", 5000), nil, 0}, {strings.Repeat("\n", 5000) + strings.Repeat("#", 4097), nil, 5001},
	} {
		var err error
		if c.line > 0 {
			err = tooLong("words", c.line)
		}
		holdWords(t, c.text, c.want, err)
	}
}

// word is a word for each number, of letters alone.
func word(n int) string {
	s := ""
	for range 4 {
		s = string(rune('a'+n%26)) + s
		n /= 26
	}
	return s
}

// rows are so many of them, falling, each made by row.
func rows(n int, row func(word string) string) string {
	var b strings.Builder
	for i := range n {
		b.WriteString(row(word(n-1-i)) + "\n")
	}
	return b.String()
}

func TestWordsMany(t *testing.T) {
	same := func(w string) string { return w }
	var all []string
	for i := range 4096 {
		all = append(all, word(i))
	}
	full := rows(4096, same)
	holdWords(t, full, all, nil)
	holdWords(t, "# x\n\n"+full+"\n # y\n\n", all, nil)
	holdWords(t, full+"zzzz", nil, wrong("words", 4097, api.ErrMany))
	holdWords(t, rows(5000, same), nil, wrong("words", 4097, api.ErrMany))
	holdWords(t, "\n#\n"+full+"\n\n zzzz # x", nil, wrong("words", 4101, api.ErrMany))
	holdWords(t, full+"1", nil, wrong("words", 4097, api.ErrWord))
	holdWords(t, full+strings.Repeat("z", 65), nil, wrong("words", 4097, api.ErrLong))
	holdWords(t, full+"zzzz\n"+lineOf("a", 4097), nil, tooLong("words", 4098))
	// A word that was there counts, too.
	holdWords(t, full+"aaaa", nil, wrong("words", 4097, api.ErrMany))
	holdWords(t, strings.Repeat("a\n", 4096), []string{"a"}, nil)
	holdWords(t, strings.Repeat("a\n", 4097), nil, wrong("words", 4097, api.ErrMany))
}

func TestWordsAllShortTexts(t *testing.T) {
	texts([]string{"a", "B", "'", "#", " ", "\t", "\r", "\n", "\xff"}, 5, func(s string) {
		want, err := wordsOf([]byte(s))
		holdWords(t, s, want, err)
	})
	texts([]string{"É", "é", "a'b", "#", "\n", " \n"}, 6, func(s string) {
		want, err := wordsOf([]byte(s))
		holdWords(t, s, want, err)
	})
}

func TestWordsIsNewMemory(t *testing.T) {
	b := []byte("b\na\n")
	x, _ := Words(b)
	y, _ := Words(b)
	copy(b, "zzzz")
	x[0] = "x"
	if !slices.Equal(x, []string{"x", "b"}) || !slices.Equal(y, []string{"a", "b"}) {
		t.Errorf("R6: Words: %q, %q", x, y)
	}
}

// fixesOf is what Fixes must answer.
func fixesOf(b []byte) ([]api.Fix, error) {
	rows, at, err := rowsOf("fixes", b)
	if err != nil {
		return nil, err
	}
	var out []api.Fix
	for i, row := range rows {
		fix, e := fixOf(row)
		if e == api.OK && slices.ContainsFunc(out, func(f api.Fix) bool { return f.From == fix.From }) {
			e = api.ErrTwice
		}
		if e == api.OK && i >= 4096 {
			e = api.ErrMany
		}
		if e != api.OK {
			return nil, wrong("fixes", at[i], e)
		}
		out = append(out, fix)
	}
	sort.Slice(out, func(i, k int) bool { return out[i].From < out[k].From })
	return out, nil
}

// fixOf is a row's correction, or its error.
func fixOf(row string) (fix api.Fix, e api.Errno) {
	about := regexp.MustCompile(`^[ \t]+|[ \t]+$`)
	cut := strings.Index(row, "->")
	if cut < 0 {
		return fix, api.ErrForm
	}
	first := about.ReplaceAllString(row[:cut], "")
	if e := checked(first); e != api.OK {
		return fix, e
	}
	fix.From = lower(first)
	for _, s := range strings.Split(row[cut+2:], ",") {
		s = about.ReplaceAllString(s, "")
		if s == "" {
			return fix, api.ErrForm
		}
		if e := checked(s); e != api.OK {
			return fix, e
		}
		if !slices.Contains(fix.To, lower(s)) {
			fix.To = append(fix.To, lower(s))
		}
	}
	return fix, api.OK
}

// holdFixes asks Fixes of bytes; it must not change them.
func holdFixes(t *testing.T, text string, want []api.Fix, wantErr error) {
	t.Helper()
	b := append(make([]byte, 0, len(text)+9), text...)
	room := b[len(b):cap(b)]
	got, err := Fixes(b)
	like := slices.EqualFunc(got, want, func(x, y api.Fix) bool { return x.From == y.From && slices.Equal(x.To, y.To) })
	if !like || !reflect.DeepEqual(err, wantErr) {
		t.Errorf("P6.3: Fixes(%.60q): %.9q, %v; not %.9q, %v", text, got, told(err), want, told(wantErr))
	}
	if string(b) != text || bytes.ContainsFunc(room, func(r rune) bool { return r != 0 }) {
		t.Errorf("R6: Fixes(%.60q) changed them", text)
	}
	if err != nil && got != nil {
		t.Errorf("R3: Fixes(%.60q): a list beside an error", text)
	}
}

// fix is a correction.
func fix(from string, to ...string) api.Fix { return api.Fix{From: from, To: to} }

func TestFixes(t *testing.T) {
	for _, c := range []struct {
		text string
		want []api.Fix
	}{
		{"teh -> the\nhav -> have, half # x", []api.Fix{fix("hav", "have", "half"), fix("teh", "the")}},
		{"", nil}, {"\n\n", nil}, {"# a -> b", nil}, {" \t\r\n#\n", nil},
		{"a->b", []api.Fix{fix("a", "b")}}, {"a->b,c", []api.Fix{fix("a", "b", "c")}}, {"\t a \t->\t b \t,\t c \t\r\n", []api.Fix{fix("a", "b", "c")}},
		{"A -> B, b, c, C, É, é, a", []api.Fix{fix("a", "b", "c", "é", "a")}},
		{"a -> z, y, x, z, y", []api.Fix{fix("a", "z", "y", "x")}},
		{"a -> a", []api.Fix{fix("a", "a")}},
		{"don't -> do'nt", []api.Fix{fix("don't", "do'nt")}},
		{"É -> z\nz -> É\nb -> c\nB'c -> d", []api.Fix{fix("b", "c"), fix("b'c", "d"), fix("z", "é"), fix("é", "z")}},
		{"b -> a\n\n# x\na -> b#, 1\n", []api.Fix{fix("a", "b"), fix("b", "a")}},
		{"д -> a\nД -> b", []api.Fix{fix("Д", "b"), fix("д", "a")}},
	} {
		holdFixes(t, c.text, c.want, nil)
	}
}

func TestFixesWrong(t *testing.T) {
	long := strings.Repeat("x", 65)
	for _, c := range []struct {
		text string
		line int
		e    api.Errno
	}{
		{"a", 1, api.ErrForm}, {"a b", 1, api.ErrForm}, {"a -", 1, api.ErrForm}, {"a >", 1, api.ErrForm}, {"a - > b", 1, api.ErrForm}, {"a >- b", 1, api.ErrForm}, {"a, b", 1, api.ErrForm}, {"1", 1, api.ErrForm}, {"\xff", 1, api.ErrForm}, {long, 1, api.ErrForm}, {"a # -> b", 1, api.ErrForm}, {"a -\n> b", 1, api.ErrForm},
		{"a ->", 1, api.ErrForm}, {"a -> ", 1, api.ErrForm}, {"a -> # b", 1, api.ErrForm}, {"a -> ,b", 1, api.ErrForm}, {"a -> b,", 1, api.ErrForm}, {"a -> b,,c", 1, api.ErrForm}, {"a -> b, \t ,c", 1, api.ErrForm}, {"a -> ,", 1, api.ErrForm},
		{"->", 1, api.ErrWord}, {"-> b", 1, api.ErrWord}, {" -> ,", 1, api.ErrWord}, {"1 -> b", 1, api.ErrWord}, {"a b -> c", 1, api.ErrWord}, {"a' -> c", 1, api.ErrWord}, {"\xff -> c", 1, api.ErrWord}, {"a, b -> c", 1, api.ErrWord}, {"a\r -> b", 1, api.ErrWord}, {"a- -> b", 1, api.ErrWord}, {"1 -> ", 1, api.ErrWord},
		{"a -> b c", 1, api.ErrWord}, {"a -> 1", 1, api.ErrWord}, {"a -> b -> c", 1, api.ErrWord}, {"a -> -> c", 1, api.ErrWord}, {"a ->-> c", 1, api.ErrWord}, {"a -> b; c", 1, api.ErrWord}, {"a -> b,\xff", 1, api.ErrWord}, {"a -> b\r, c", 1, api.ErrWord}, {"a -> 1, , b", 1, api.ErrWord}, {"a -> > b", 1, api.ErrWord},
		{"a -> , 1", 1, api.ErrForm},
		{long + " -> b", 1, api.ErrLong}, {"a -> " + long, 1, api.ErrLong}, {"a -> b, " + long, 1, api.ErrLong}, {long + " -> 1", 1, api.ErrLong}, {long + " ->", 1, api.ErrLong}, {"1 -> " + long, 1, api.ErrWord}, {"a -> 1, " + long, 1, api.ErrWord}, {"a -> " + long + ", 1", 1, api.ErrLong}, {"a -> " + long + ",", 1, api.ErrLong}, {"a -> , " + long, 1, api.ErrForm},
		{"a -> b\nA -> c", 2, api.ErrTwice}, {"a -> b\na -> b", 2, api.ErrTwice}, {"é->b\n#\n\nb -> é\nÉ->b", 5, api.ErrTwice},
		{"a -> b\na", 2, api.ErrForm}, {"a -> b\na -> ", 2, api.ErrForm}, {"a -> b\na -> 1", 2, api.ErrWord}, {"a -> b\n a -> " + long, 2, api.ErrLong},
		{"a -> b\n\nb -> c\n# x\n1 -> b\n", 5, api.ErrWord},
	} {
		holdFixes(t, c.text, nil, wrong("fixes", c.line, c.e))
	}
}

func TestFixesLimits(t *testing.T) {
	full := strings.Repeat("x", 64)
	holdFixes(t, full+" -> "+strings.ToUpper(full), []api.Fix{fix(full, full)}, nil)
	holdFixes(t, lineOf("a -> b", 4096), []api.Fix{fix("a", "b")}, nil)
	holdFixes(t, "a -> b"+strings.Repeat("\t", 4090), []api.Fix{fix("a", "b")}, nil)
	for _, c := range []struct {
		text string
		line int
	}{
		{lineOf("a -> b", 4097), 1}, {"a -> b" + strings.Repeat("\t", 4091), 1}, {"x\n\na -> b\n" + lineOf("#", 4097), 4}, {lineOf("a -> b", 4096) + "a -> b\n" + lineOf("", 4097) + lineOf("", 4097), 3},
	} {
		holdFixes(t, c.text, nil, tooLong("fixes", c.line))
	}

	var to []string
	for i := range 800 {
		to = append(to, word(i))
	}
	holdFixes(t, "a->"+strings.Join(to, ","), []api.Fix{fix("a", to...)}, nil)

	row := func(w string) string { return w + " -> a" }
	var all []api.Fix
	for i := range 4096 {
		all = append(all, fix(word(i), "a"))
	}
	many := rows(4096, row)
	holdFixes(t, many, all, nil)
	holdFixes(t, "\n#\n"+many+"\n \n#\n", all, nil)
	holdFixes(t, many+"zzzz -> a", nil, wrong("fixes", 4097, api.ErrMany))
	holdFixes(t, "\n#\n"+many+"\n#\n zzzz->a", nil, wrong("fixes", 4101, api.ErrMany))
	holdFixes(t, rows(5000, row), nil, wrong("fixes", 4097, api.ErrMany))
	holdFixes(t, many+"aaaa -> b", nil, wrong("fixes", 4097, api.ErrTwice))
	holdFixes(t, many+"zzzz", nil, wrong("fixes", 4097, api.ErrForm))
	holdFixes(t, many+"zzzz -> 1", nil, wrong("fixes", 4097, api.ErrWord))
	holdFixes(t, many+"zzzz -> a\n"+lineOf("", 4097), nil, tooLong("fixes", 4098))
}

func TestFixesAllShortTexts(t *testing.T) {
	texts([]string{"a", "B", "->", "-", ",", " ", "\n", "#", "\r"}, 5, func(s string) {
		want, err := fixesOf([]byte(s))
		holdFixes(t, s, want, err)
	})
	texts([]string{"A->", "a ->b", ",é", ", É", "\n", "1", "\t", "b->c\n"}, 5, func(s string) {
		want, err := fixesOf([]byte(s))
		holdFixes(t, s, want, err)
	})
}

func TestFixesIsNewMemory(t *testing.T) {
	b := []byte("a -> b, c\nd -> b, c\n")
	x, _ := Fixes(b)
	y, _ := Fixes(b)
	copy(b, "zzzzzzzzzzzzzzzzz")
	x[0].To = append(x[0].To, "more")
	x[0].To[0], x[0].From = "x", "x"
	if !reflect.DeepEqual(x[1], fix("d", "b", "c")) || !reflect.DeepEqual(y, []api.Fix{fix("a", "b", "c"), fix("d", "b", "c")}) {
		t.Errorf("R6: Fixes: %q, %q", x, y)
	}
	for _, f := range y {
		if more := append(f.To, "more"); cap(f.To) > 2 && more[2] != "more" {
			t.Error("R6: spare room")
		}
	}
	if !reflect.DeepEqual(y, []api.Fix{fix("a", "b", "c"), fix("d", "b", "c")}) {
		t.Errorf("R6: lists of one answer share memory: %q", y)
	}
}

func TestNothing(t *testing.T) {
	for _, b := range [][]byte{nil, {}} {
		if l, err := Words(b); len(l) != 0 || err != nil {
			t.Errorf("P6.2: Words of nothing: %q, %v", l, err)
		}
		if l, err := Fixes(b); len(l) != 0 || err != nil {
			t.Errorf("P6.3: Fixes of nothing: %q, %v", l, err)
		}
	}
}

func TestErrorsAreWhatFaultMakes(t *testing.T) {
	_, err := Words([]byte("a\n1"))
	if list, line, ok := fault.Where(err); list != "words" || line != 2 || !ok || fault.Inner(err) != api.ErrWord || !errors.Is(err, api.ErrWord) {
		t.Errorf("P6.2: %s", told(err))
	}
	_, err = Fixes([]byte("a->b\n" + strings.Repeat("#", 4097)))
	in := fault.Inner(err)
	if list, line, ok := fault.Where(err); list != "fixes" || line != 0 || !ok || fault.Code(err) != api.ErrLong {
		t.Errorf("P6.3: %s", told(err))
	}
	if list, line, ok := fault.Where(in); list != "" || line != 2 || !ok || fault.Inner(in) != api.ErrLong {
		t.Errorf("P6.3: within: %s", told(in))
	}
}

// claims gives itself out as an *At.
type claims struct{ at *fault.At }

func (c claims) Error() string { return "claims" }
func (c claims) As(target any) bool {
	if p, ok := target.(**fault.At); ok {
		*p = c.at
		return true
	}
	return false
}

// self wraps itself.
type self struct{}

func (*self) Error() string   { return "self" }
func (s *self) Unwrap() error { return s }

// wild panics in whatever it is asked.
type wild struct{}

func (wild) Error() string { panic("Error") }
func (wild) Unwrap() error { panic("Unwrap") }
func (wild) Is(error) bool { panic("Is") }
func (wild) As(any) bool   { panic("As") }

func TestLine(t *testing.T) {
	at := fault.New
	plain := errors.New("x")
	var none *fault.At
	for _, c := range []struct {
		name string
		err  error
		want int
	}{
		{"nil", nil, 0}, {"a number", api.ErrLong, 0}, {"a plain error", plain, 0}, {"OK", api.OK, 0},
		{"a line", at("words", 3, api.ErrWord), 3}, {"line 1", at("words", 1, plain), 1}, {"line 0", at("words", 0, api.ErrWord), 0}, {"a line below 0", at("words", -3, plain), 0},
		{"a line's length", at("words", 0, at("", 7, api.ErrLong)), 7}, {"two lines", at("words", 2, at("", 7, api.ErrLong)), 2},
		{"lines below 0 ahead", at("a", -1, at("b", 0, at("c", -9, at("d", 4, at("e", 5, plain))))), 4}, {"none above 0", at("a", -1, at("b", 0, plain)), 0},
		{"a line, wrapped", fmt.Errorf("x: %w", at("words", 0, fmt.Errorf("y: %w", at("", 8, api.ErrLong)))), 8},
		{"a line beside another", errors.Join(plain, at("a", 0, api.ErrLong), at("b", 6, plain), at("c", 7, plain)), 6},
		{"a line beside one within", at("a", 0, errors.Join(at("b", 0, plain), at("c", 0, at("d", 5, plain)), at("e", 6, plain))), 5},
		{"an *At about nothing", &fault.At{Line: 2}, 2}, {"an *At of nothing", &fault.At{}, 0},
		{"a nil *At", none, 0}, {"an *At about a nil one", at("a", 0, none), 0}, {"a nil *At beside another", errors.Join(none, at("a", 2, plain)), 2},
		{"one that claims", claims{&fault.At{Line: 9}}, 9}, {"one that claims nothing", claims{nil}, 0}, {"one that claims line 0", errors.Join(claims{&fault.At{}}, at("a", 4, plain)), 4},
		{"one that wraps itself", &self{}, 0}, {"a line about one that wraps itself", at("a", 3, &self{}), 3}, {"a line behind it", errors.Join(&self{}, at("a", 3, plain)), 3},
		{"one that panics", wild{}, 0}, {"a line about one that panics", at("a", 0, at("b", 2, wild{})), 2}, {"a line behind it", errors.Join(wild{}, at("a", 3, plain)), 3},
	} {
		if got := Line(c.err); got != c.want {
			t.Errorf("P6.4: Line of %s: %d, not %d", c.name, got, c.want)
		}
	}
}

func TestLineOfRings(t *testing.T) {
	a := &fault.At{List: "a"}
	a.Err = a
	if got := Line(a); got != 0 {
		t.Errorf("P1, P6.4: Line of an *At that holds itself: %d", got)
	}
	a.Err = errors.Join(a, a)
	if got := Line(a); got != 0 {
		t.Errorf("P1, P6.4: Line of an *At that joins itself: %d", got)
	}
	a.Err = errors.Join(a, fault.New("b", 5, a))
	if got := Line(a); got != 5 {
		t.Errorf("P6.4: Line of an *At that joins itself and a line: %d", got)
	}
	var last error = &fault.At{Line: -1}
	first := last
	for range 5000 {
		first = &fault.At{Err: first}
	}
	last.(*fault.At).Err = first
	if got := Line(first); got != 0 {
		t.Errorf("P1, P6.4: Line of a long ring: %d", got)
	}
	last.(*fault.At).Line = 6
	if got := Line(first); got != 6 {
		t.Errorf("P6.4: Line of a long ring with a line: %d", got)
	}
}

func TestLineOfEveryError(t *testing.T) {
	for n := 1; n < 300; n += 7 {
		ahead := strings.Repeat("# x\n", n-1)
		_, a := Words([]byte(ahead + "1\n2\n"))
		_, b := Fixes([]byte(ahead + "1\n2\n"))
		_, c := Words([]byte(ahead + lineOf("a", 4097)))
		_, d := Fixes([]byte(ahead + lineOf("a", 4097)))
		for _, err := range []error{a, b, c, d} {
			if Line(err) != n {
				t.Errorf("P6.4: Line of an error on line %d: %d", n, Line(err))
			}
		}
	}
}
