package fold

import (
	"regexp"
	"slices"
	"strings"
	"testing"

	"calepin/api"
	"calepin/trial"
)

// The chapter's rows and lines as patterns: an oracle of another make than the package's.
var (
	whole   = regexp.MustCompile(`^(?:[^\r\n \t][^\r\n]*\r?\n(?:[ \t][^\r\n]*\r?\n)*)*$`)
	further = regexp.MustCompile(`\r?\n[ \t]`)
	ending  = regexp.MustCompile(`\r?\n`)
)

// unfolded tells by the patterns what Unfold must answer.
func unfolded(text string) ([]string, api.Errno) {
	if !whole.MatchString(text) {
		return nil, api.ErrLine
	}
	if text == "" {
		return nil, api.OK
	}
	parts := ending.Split(further.ReplaceAllString(text, ""), -1)
	return parts[:len(parts)-1], api.OK
}

// unfolds asks that Unfold answers just these lines, or this error.
func unfolds(t *testing.T, text string, want []string, fault api.Errno) {
	t.Helper()
	got, e := Unfold(text)
	if e != fault || !slices.Equal(got, want) {
		t.Errorf("Unfold(%q): %q %d, want %q %d", text, got, e, want, fault)
	}
}

// P2.1: all short texts of the bytes that count, against the patterns.
func TestUnfoldShortTexts(t *testing.T) {
	trial.Every([]string{"A", " ", "\t", "\r", "\n"}, 7, func(s string) {
		want, fault := unfolded(s)
		unfolds(t, s, want, fault)
	})
	trial.Every([]string{"a:b", " ", "\r\n", "\n", "\n\t", "\r\n ", "\r", "\xff"}, 5, func(s string) {
		want, fault := unfolded(s)
		unfolds(t, s, want, fault)
	})
}

// P2.1: texts that are read.
func TestUnfoldReads(t *testing.T) {
	rows := []struct {
		text string
		want []string
	}{
		{"", nil},
		{"A\n", []string{"A"}},
		{"A\r\n", []string{"A"}},
		{"A:1\r\n 2\nB:\n", []string{"A:12", "B:"}},
		{"A\nB\r\nC\n", []string{"A", "B", "C"}},
		{"A\n b\r\n\tc\n  d\n \te\n\t\tf\n", []string{"Abc d\te\tf"}},
		{"A\n \nB\n", []string{"A", "B"}},
		{"A\r\n\t\r\n \r\n", []string{"A"}},
		{"A\n \n b\n", []string{"Ab"}},
		{"A \n B\n", []string{"A B"}},
		{"A\t \nB\n", []string{"A\t ", "B"}},
		{"A\nA\n", []string{"A", "A"}},
		{"é\xe2\n \x82\xac\xff\x00\x7f\n", []string{"é\xe2\x82\xac\xff\x00\x7f"}},
		{"\xc2\n \xa0\n", []string{"\u00a0"}},
		{"\u00a0\n\u2028\n\v\n\f\n\x85\n", []string{"\u00a0", "\u2028", "\v", "\f", "\x85"}},
		{strings.Repeat("A", 200) + "\n", []string{strings.Repeat("A", 200)}},
		{"A\n" + strings.Repeat(" b\r\n", 70000), []string{"A" + strings.Repeat("b", 70000)}},
	}
	for _, r := range rows {
		unfolds(t, r.text, r.want, api.OK)
	}
}

// P2.1: each thing that makes ErrLine, at the beginning, within and at the end.
func TestUnfoldRefuses(t *testing.T) {
	rows := []string{
		"A", "A\nB", "A\n B", "A\r", "A\nB\r", "A\n ", "\r", " ",
		"\n", "\r\n", "\n\n", "A\n\n", "A\r\n\r\n", "\nA\n", "\r\nA\n", "A\n\nB\n", "A\n\n B\n", "A\n B\n\n", "A\n\r\n B\n",
		"\r\r\n", "A\r\r\n", "\rA\n", "A\rB\n", "A\rB\r\n", "A\n\rB\n", "A\n \r\r\n", "A\n B\rC\n", "A\nB\n \rC\r\n", "A\r \n",
		" A\n", "\tA\n", " \n", "\t\n", " A\nB\n", " \r\nB\n",
	}
	for _, s := range rows {
		unfolds(t, s, nil, api.ErrLine)
		// Beside other rows some of these are right: the patterns know which.
		for _, text := range []string{"X:1\r\n 2\n" + s, s + "X:1\r\n"} {
			want, fault := unfolded(text)
			unfolds(t, text, want, fault)
		}
	}
	good := strings.Repeat("A:1\r\n 2\n", 1000)
	unfolds(t, good+"A", nil, api.ErrLine)
	unfolds(t, good+"\n", nil, api.ErrLine)
	unfolds(t, good+" \r\r\n", nil, api.ErrLine)
}

// P2.1: which byte a row may begin with, and have in it.
func TestUnfoldBytes(t *testing.T) {
	for i := 0; i < 256; i++ {
		c := string([]byte{byte(i)})
		begins := c != " " && c != "\t" && c != "\r" && c != "\n"
		if _, e := Unfold(c + "A\n"); (e == api.OK) != begins {
			t.Errorf("a row that begins with %q: %d", c, e)
		}
		within := c != "\r" && c != "\n"
		if _, e := Unfold("A" + c + "B\n C" + c + "D\n"); (e == api.OK) != (within || c == "\n") {
			t.Errorf("a row with %q in it: %d", c, e)
		}
		if begins {
			unfolds(t, "A\n"+c+"B\n", []string{"A", c + "B"}, api.OK)
		}
	}
}

// P2.1: the answer is the caller's own: writing to it is seen nowhere else.
func TestUnfoldNewMemory(t *testing.T) {
	first, _ := Unfold("A\nB\n")
	first[0] = "X"
	_ = append(first, "Y")
	unfolds(t, "A\nB\n", []string{"A", "B"}, api.OK)
}

// P2.2: all short lines of the bytes that count, and each byte at the beginning, within and at the end.
func TestGood(t *testing.T) {
	good := regexp.MustCompile(`^[^\r\n \t][^\r\n]*$`)
	trial.Every([]string{"A", " ", "\t", "\r", "\n", "\xff"}, 5, func(s string) {
		if Good(s) != good.MatchString(s) {
			t.Errorf("Good(%q): %v", s, Good(s))
		}
	})
	for i := 0; i < 256; i++ {
		c := string([]byte{byte(i)})
		row := i != 10 && i != 13
		first := row && i != 32 && i != 9
		if Good(c) != first || Good(c+"A") != first || Good("A"+c) != row || Good("A"+c+"A") != row {
			t.Errorf("byte %d: %v %v %v %v", i, Good(c), Good(c+"A"), Good("A"+c), Good("A"+c+"A"))
		}
	}
	long := strings.Repeat("é ", 40000)
	if !Good(long) || Good(long+"\r") || Good(long+"\n") || Good(" "+long) {
		t.Errorf("a long line")
	}
}

// size is how many bytes the character has that s begins with, by the table of well-formed bytes; 1, if it begins none.
func size(s string) int {
	rows := []struct{ first, last, low, high byte }{
		{0xc2, 0xdf, 0x80, 0xbf},
		{0xe0, 0xe0, 0xa0, 0xbf},
		{0xe1, 0xec, 0x80, 0xbf},
		{0xed, 0xed, 0x80, 0x9f},
		{0xee, 0xef, 0x80, 0xbf},
		{0xf0, 0xf0, 0x90, 0xbf},
		{0xf1, 0xf3, 0x80, 0xbf},
		{0xf4, 0xf4, 0x80, 0x8f},
	}
	for _, r := range rows {
		if s[0] < r.first || s[0] > r.last {
			continue
		}
		n := 2
		if s[0] >= 0xe0 {
			n = 3
		}
		if s[0] >= 0xf0 {
			n = 4
		}
		if len(s) < n || s[1] < r.low || s[1] > r.high {
			return 1
		}
		for _, c := range []byte(s[2:n]) {
			if c < 0x80 || c > 0xbf {
				return 1
			}
		}
		return n
	}
	return 1
}

// folded lays a line character by character, with a new row ahead of each that wouldn't fit.
func folded(line string) string {
	if line == "" {
		return ""
	}
	out, used := "", 0
	for line != "" {
		n := size(line)
		if used+n > 75 {
			out, used = out+"\r\n ", 1
		}
		out, used, line = out+line[:n], used+n, line[n:]
	}
	return out + "\r\n"
}

// folds asks that Fold answers just this text.
func folds(t *testing.T, want string, lines ...string) {
	t.Helper()
	if got := Fold(lines...); got != want {
		t.Errorf("Fold(%q): %q, want %q", lines, got, want)
	}
}

// P2.2: lines of each length, the bounds of the first rows by name.
func TestFoldLengths(t *testing.T) {
	a := strings.Repeat("A", 400)
	for n := 0; n <= 400; n++ {
		folds(t, folded(a[:n]), a[:n])
	}
	folds(t, "A\r\n", "A")
	folds(t, a[:74]+"\r\n", a[:74])
	folds(t, a[:75]+"\r\n", a[:75])
	folds(t, a[:75]+"\r\n A\r\n", a[:76])
	folds(t, a[:75]+"\r\n AAAAA\r\n", a[:80])
	folds(t, a[:75]+"\r\n "+a[:74]+"\r\n", a[:149])
	folds(t, a[:75]+"\r\n "+a[:74]+"\r\n A\r\n", a[:150])
	folds(t, a[:75]+"\r\n "+a[:74]+"\r\n "+a[:74]+"\r\n", a[:223])
	folds(t, a[:75]+"\r\n "+a[:74]+"\r\n "+a[:74]+"\r\n A\r\n", a[:224])
}

// P2.2: any number of lines, one behind the other; an empty one has no row, as a row has a character at least.
func TestFoldLines(t *testing.T) {
	long := strings.Repeat("B", 76)
	folds(t, "")
	folds(t, "", "")
	folds(t, "", "", "")
	folds(t, "A\r\n", "", "A", "")
	folds(t, "A\r\nB\r\nA\r\n", "A", "B", "A")
	folds(t, long[:75]+"\r\n B\r\nA\r\n"+long[:75]+"\r\n B\r\n", long, "A", long)
	var many []string
	for n := 0; n < 300; n++ {
		many = append(many, strings.Repeat("é", n))
	}
	want := ""
	for _, l := range many {
		want += folded(l)
	}
	folds(t, want, many...)
}

// P2.2: characters of each length, whole, cut short, too long, and no characters, at each place near a row's end.
func TestFoldCharacters(t *testing.T) {
	pieces := []string{
		"\x00", "\x7f", "\u0080", "é", "\u07ff", "\u0800", "漢", "\ud7ff", "\ue000", "\ufffd", "\uffff", "😀", "\U00010000", "\U0010ffff", "e\u0301",
		"\x80", "\xbf", "\xff", "\xc3", "\xe2\x82", "\xe2", "\xf0\x9f\x98", "\xf0\x9f", "\xf0", "\xf4\x8f\xbf",
		"\xc0\x80", "\xc1\xbf", "\xe0\x9f\xbf", "\xf0\x8f\xbf\xbf", "\xed\xa0\x80", "\xed\xbf\xbf", "\xf4\x90\x80\x80", "\xf5\x80\x80\x80", "\xf8\x88\x80\x80\x80",
		" ", "\t", "\r", "\n", "\r\n",
	}
	for _, p := range pieces {
		for ahead := 60; ahead <= 160; ahead++ {
			for _, s := range []string{p, p + "A", p + p, p + strings.Repeat("B", 80), strings.Repeat(p, 80)} {
				line := strings.Repeat("A", ahead) + s
				folds(t, folded(line), line)
			}
		}
		line := strings.Repeat(p, 300)
		folds(t, folded(line), line)
	}
}

// P2.2: the edges of characters by name, without the oracle.
func TestFoldCharactersByName(t *testing.T) {
	a := strings.Repeat("A", 100)
	folds(t, a[:73]+"é\r\n", a[:73]+"é")
	folds(t, a[:74]+"\r\n é\r\n", a[:74]+"é")
	folds(t, a[:72]+"漢\r\n B\r\n", a[:72]+"漢B")
	folds(t, a[:73]+"\r\n 漢B\r\n", a[:73]+"漢B")
	folds(t, a[:71]+"😀\r\n B\r\n", a[:71]+"😀B")
	folds(t, a[:72]+"\r\n 😀B\r\n", a[:72]+"😀B")
	folds(t, a[:74]+"e\r\n \u0301\r\n", a[:74]+"e\u0301")
	folds(t, a[:75]+"\r\n "+a[:72]+"é\r\n", a[:75]+a[:72]+"é")
	folds(t, a[:75]+"\r\n "+a[:73]+"\r\n é\r\n", a[:75]+a[:73]+"é")
	folds(t, a[:74]+"\xc3\r\n B\r\n", a[:74]+"\xc3B")
	folds(t, a[:74]+"\xe2\r\n \x82B\r\n", a[:74]+"\xe2\x82B")
	folds(t, a[:74]+"\xed\r\n \xa0\x80\r\n", a[:74]+"\xed\xa0\x80")
	folds(t, a[:74]+"\xc0\r\n \x80\r\n", a[:74]+"\xc0\x80")
	folds(t, a[:74]+"\r\r\n \n\r\n", a[:74]+"\r\n")
}

// P2.2: what is handed in stays as it is, its spare room too.
func TestFoldLeavesLines(t *testing.T) {
	lines := []string{"A", strings.Repeat("é", 90), "", "spare"}
	before := slices.Clone(lines)
	Fold(lines[:3]...)
	if !slices.Equal(lines, before) {
		t.Errorf("the lines have changed: %q", lines)
	}
}

// P2.3: good lines come back, alone and with others, as long as they may be.
func TestFoldIsUnfolded(t *testing.T) {
	pieces := []string{"A", " ", "\t", "é", "漢", "😀", "\xff", "\xe2\x82", "\x00", ":;,\"\\"}
	var lines []string
	seed := uint32(1)
	draw := func(n int) int {
		seed = seed*1664525 + 1013904223
		return int(seed>>8) % n
	}
	for len(lines) < 2000 {
		var b strings.Builder
		for range draw(200) {
			b.WriteString(pieces[draw(len(pieces))])
		}
		if line := b.String(); Good(line) {
			lines = append(lines, line)
			unfolds(t, Fold(line), []string{line}, api.OK)
		}
	}
	unfolds(t, Fold(lines...), lines, api.OK)
	unfolds(t, Fold(), nil, api.OK)
}

// P2.3: lines whose rows begin with blanks of their own, and short ones of every make.
func TestFoldIsUnfoldedAtBlanks(t *testing.T) {
	for _, p := range []string{" ", "\t", " \t", "\t  "} {
		for n := 0; n < 300; n++ {
			line := "A" + strings.Repeat(p, n)
			unfolds(t, Fold(line, "B", line), []string{line, "B", line}, api.OK)
		}
	}
	trial.Every([]string{"A", " ", "\t", "\r", "\n", "é", "\xc3"}, 5, func(s string) {
		if Good(s) {
			unfolds(t, Fold(s, s), []string{s, s}, api.OK)
		}
	})
}
