package cond

import (
	"math"
	"math/big"
	"regexp"
	"slices"
	"strconv"
	"strings"
	"testing"

	"calepin/api"
	"calepin/trial"
)

// The chapter's form as patterns: an oracle of another make than the package's.
const (
	tagForm  = `"([1-9][0-9]*)"`
	gapForm  = `[ \t]*`
	listForm = `(?:` + gapForm + tagForm + gapForm + `)`
)

var (
	wholeTag  = regexp.MustCompile(`^` + tagForm + `$`)
	wholeStar = regexp.MustCompile(`^` + gapForm + `\*` + gapForm + `$`)
	wholeList = regexp.MustCompile(`^` + listForm + `(?:,` + listForm + `)*$`)
	oneTag    = regexp.MustCompile(tagForm)
	mostTag   = new(big.Int).Lsh(big.NewInt(1), 62)
)

// valued is the tag of these digits; false, if it is above the greatest one.
func valued(digits string) (int, bool) {
	n, ok := new(big.Int).SetString(digits, 10)
	if !ok || n.Cmp(mostTag) > 0 {
		return 0, false
	}
	return int(n.Int64()), true
}

// parsed tells by the patterns what Parse must answer.
func parsed(s string) (int, bool) {
	m := wholeTag.FindStringSubmatch(s)
	if m == nil {
		return 0, false
	}
	return valued(m[1])
}

// listed tells by the patterns what List must answer.
func listed(s string) ([]int, bool, api.Errno) {
	if wholeStar.MatchString(s) {
		return nil, true, api.OK
	}
	if !wholeList.MatchString(s) {
		return nil, false, api.ErrForm
	}
	var tags []int
	for _, m := range oneTag.FindAllStringSubmatch(s, -1) {
		n, ok := valued(m[1])
		if !ok {
			return nil, false, api.ErrForm
		}
		tags = append(tags, n)
	}
	return tags, false, api.OK
}

// parses asks that Parse answers just this.
func parses(t *testing.T, s string, want int, ok bool) {
	t.Helper()
	if got, is := Parse(s); got != want || is != ok {
		t.Errorf("Parse(%q): %d %v, want %d %v", s, got, is, want, ok)
	}
}

// lists asks that List answers just this.
func lists(t *testing.T, s string, want []int, all bool, fault api.Errno) {
	t.Helper()
	got, star, e := List(s)
	if !slices.Equal(got, want) || star != all || e != fault {
		t.Errorf("List(%q): %d %v %d, want %d %v %d", s, got, star, e, want, all, fault)
	}
}

// asPatterns asks that Parse and List answer what the patterns do, and tells what List does.
func asPatterns(t *testing.T, s string) ([]int, bool, api.Errno) {
	t.Helper()
	n, ok := parsed(s)
	parses(t, s, n, ok)
	tags, all, e := listed(s)
	lists(t, s, tags, all, e)
	return tags, all, e
}

// P10.1: numbers around both bounds, each power of two and of ten and what is beside it, also below 0: the written tag is read as itself.
func TestTag(t *testing.T) {
	ns := []int{math.MinInt, math.MinInt + 1, -1 << 62, -1, 0, 1, 2, 9, 10, 11, 99, 100, 1<<62 - 1, 1 << 62, 1<<62 + 1, math.MaxInt - 1, math.MaxInt}
	for i := range 63 {
		ns = append(ns, 1<<i-1, 1<<i, 1<<i+1)
	}
	for ten := 1; ten <= math.MaxInt/10; ten *= 10 {
		ns = append(ns, ten-1, ten, ten+1, -ten)
	}
	for n := range 2000 {
		ns = append(ns, n-1000)
	}
	for _, n := range ns {
		want, is := "", n >= 1 && n <= 1<<62
		if is {
			want = "\"" + strconv.Itoa(n) + "\""
		}
		if got := Tag(n); got != want {
			t.Errorf("Tag(%d): %q, want %q", n, got, want)
		}
		if is {
			parses(t, want, n, true)
			lists(t, want, []int{n}, false, api.OK)
		}
	}
}

// P10.1: texts that are just beside a tag.
func TestParseTexts(t *testing.T) {
	parses(t, `"1"`, 1, true)
	parses(t, `"4611686018427387904"`, 1<<62, true)
	for _, s := range []string{
		"", `"`, `""`, `"""`, `"0"`, `"00"`, `"01"`, `"+1"`, `"-1"`, `"1.0"`, `"1e3"`, `"0x1"`, `"1_0"`, `"a"`, `"*"`, "*",
		"1", `"1`, `1"`, `""1"`, `"1""`, `""1""`, `'1'`, "“1”", `W/"1"`, `w/"1"`, `\"1\"`,
		` "1"`, `"1" `, "\t\"1\"", "\"1\"\t", `" 1"`, `"1 "`, `"1 2"`, `"1"` + "\n", `"1"` + "\r\n", `"1"` + "\x00", "\"1\x00\"", "\"\xff\"", "\"١\"", "\"１\"",
		`"4611686018427387905"`, `"4611686018427387910"`, `"9223372036854775807"`, `"9223372036854775808"`, `"18446744073709551615"`, `"18446744073709551616"`, `"18446744073709551617"`,
		`"` + strings.Repeat("9", 1000) + `"`, `"1","2"`, `"1",`, `,"1"`,
	} {
		parses(t, s, 0, false)
	}
}

// P10.2: the chapter's example and others, as they are ordinary.
func TestListTexts(t *testing.T) {
	lists(t, " \"1\" , \"2\"", []int{1, 2}, false, api.OK)
	lists(t, `"3"`, []int{3}, false, api.OK)
	lists(t, "\t \"3\" \t,\"3\",\t\"1\"\t ", []int{3, 3, 1}, false, api.OK)
	lists(t, `"4611686018427387904","1"`, []int{1 << 62, 1}, false, api.OK)
	for _, s := range []string{"*", " *", "* ", "\t*\t", " \t * \t "} {
		lists(t, s, nil, true, api.OK)
	}
	for _, s := range []string{
		"", " ", "\t", ",", `"1",`, `,"1"`, `"1",,"2"`, `"1", ,"2"`, `"1" "2"`, `"1""2"`, `"1";"2"`, "1", `"1",2`, `"1,2"`,
		"**", "* *", "*,*", `*,"1"`, `"1",*`, `"*"`, `"1" *`, "x", "*x", `"0"`, `"1","0"`, `"01"`, `" 1"`, `"1 "`, `W/"1"`, `"1", W/"2"`,
		"\"1\"\r", "\n\"1\"", "\"1\",\n\"2\"", "\v*", "*\f", "\u00a0*", "\"1\"\u2003", "\u0085\"1\"", "\x00*", `"4611686018427387905"`, `"1","4611686018427387905"`, `"1","18446744073709551617"`,
	} {
		lists(t, s, nil, false, api.ErrForm)
	}
}

// P10.1, P10.2: all short texts of the pieces that matter.
func TestShortTexts(t *testing.T) {
	kinds := map[string]int{}
	trial.Every([]string{`"`, "1", "0", ",", "*", " ", "\t", "x"}, 6, func(s string) {
		tags, all, e := asPatterns(t, s)
		kinds[strconv.Itoa(len(tags))+strconv.FormatBool(all)+e.Error()]++
	})
	trial.Every([]string{`"2"`, `"1`, `3"`, `"`, ",", "*", " ", "\t"}, 6, func(s string) {
		tags, all, e := asPatterns(t, s)
		kinds[strconv.Itoa(len(tags))+strconv.FormatBool(all)+e.Error()]++
	})
	for _, k := range []string{"0false" + api.ErrForm.Error(), "0true" + api.OK.Error(), "1false" + api.OK.Error(), "2false" + api.OK.Error(), "3false" + api.OK.Error()} {
		if kinds[k] < 10 {
			t.Errorf("%s came only %d times", k, kinds[k])
		}
	}
}

// P10.1, P10.2: each byte laid in, put for another one, and one taken out, at each place of conditions and tags.
func TestEachByte(t *testing.T) {
	for _, s := range []string{`"1"`, `"120"`, `"1","20"`, " \"1\" ,\t\"20\"\t", "*", "\t* ", `"4611686018427387904"`, `"461168601842738790"`, `"18446744073709551"`} {
		trial.Beside(s, func(s string) { asPatterns(t, s) })
	}
}

// P10.2: many tags, all in their order; a fault in any one of them counts.
func TestManyTags(t *testing.T) {
	var pieces []string
	var want []int
	for i := range 3000 {
		n := 1 + i*i*i%977
		pieces, want = append(pieces, strings.Repeat(" ", i%3)+Tag(n)+strings.Repeat("\t", i%5)), append(want, n)
	}
	lists(t, strings.Join(pieces, ","), want, false, api.OK)
	for _, at := range []int{0, 1, 1500, 2998, 2999} {
		for _, bad := range []string{"", "*", `"0"`, "x", `"1`} {
			spoilt := slices.Clone(pieces)
			spoilt[at] = bad
			lists(t, strings.Join(spoilt, ","), nil, false, api.ErrForm)
		}
	}
}

// P10.2: an answer is new memory, its spare room too.
func TestListIsNew(t *testing.T) {
	a, _, _ := List(`"1","2","3"`)
	b, _, _ := List(`"1","2","3"`)
	a = append(a[:cap(a)], 9)
	for i := range a {
		a[i] = 7
	}
	if !slices.Equal(b, []int{1, 2, 3}) {
		t.Errorf("the second answer is %d", b)
	}
	lists(t, `"1","2","3"`, []int{1, 2, 3}, false, api.OK)
}

// may tells by the chapter's words what Holds must answer.
func may(match, none string, tag int) (bool, api.Errno) {
	has, star, e := listed(match)
	hasnt, starless, f := listed(none)
	if match != "" && e != api.OK || none != "" && f != api.OK {
		return false, api.ErrForm
	}
	if match != "" {
		if tag == 0 || !star && !slices.Contains(has, tag) {
			return false, api.OK
		}
	}
	if none == "" || tag == 0 {
		return true, api.OK
	}
	return !starless && !slices.Contains(hasnt, tag), api.OK
}

// holds asks that Holds answers just this.
func holds(t *testing.T, match, none string, tag int, want bool, fault api.Errno) {
	t.Helper()
	if got, e := Holds(match, none, tag); got != want || e != fault {
		t.Errorf("Holds(%q, %q, %d): %v %d, want %v %d", match, none, tag, got, e, want, fault)
	}
}

// P10.3: the chapter's examples, and what each of the two conditions says.
func TestHolds(t *testing.T) {
	holds(t, "*", "", 0, false, api.OK)
	holds(t, "", "*", 0, true, api.OK)
	holds(t, `"3"`, "", 4, false, api.OK)
	holds(t, "x", "", 1, false, api.ErrForm)
	holds(t, "", "", 0, true, api.OK)
	holds(t, "", "", 5, true, api.OK)
	holds(t, "*", "", 5, true, api.OK)
	holds(t, "", "*", 5, false, api.OK)
	holds(t, `"3","4"`, "", 4, true, api.OK)
	holds(t, `"3","4"`, "", 0, false, api.OK)
	holds(t, "", `"3","4"`, 4, false, api.OK)
	holds(t, "", `"3","4"`, 5, true, api.OK)
	holds(t, "", `"3","4"`, 0, true, api.OK)
	holds(t, `"3","4"`, `"5"`, 4, true, api.OK)
	holds(t, `"3","4"`, `"4"`, 4, false, api.OK)
	holds(t, "*", "*", 0, false, api.OK)
	holds(t, "*", "*", 1, false, api.OK)
}

// P10.3: a condition that is none is told also if the other one doesn't hold, and if there is nothing.
func TestHoldsFaults(t *testing.T) {
	for _, tag := range []int{0, 1, 4} {
		for _, bad := range []string{"x", " ", ",", `"0"`, `"4",`, "*,*", `"4" "4"`, `W/"4"`, "4"} {
			for _, other := range []string{"", "*", `"4"`, `"9"`, `"4","1"`, bad, "y"} {
				holds(t, bad, other, tag, false, api.ErrForm)
				holds(t, other, bad, tag, false, api.ErrForm)
			}
		}
	}
}

// P10.3: all pairs of a stock of conditions with all tags around them, also with what no tag can be.
func TestHoldsPairs(t *testing.T) {
	stock := []string{
		"", "*", " * ", "\t*", `"1"`, `"2"`, ` "1"`, `"1","2"`, `"2" , "1"`, `"3","3"`, `"10"`, `"4611686018427387904"`, `"1","4611686018427387904"`,
		"x", " ", `"1",`, `"0"`, "**", "1", `"4611686018427387905"`,
	}
	counts := map[string]int{}
	for _, match := range stock {
		for _, none := range stock {
			for _, tag := range []int{0, 1, 2, 3, 4, 10, 1 << 62, 1<<62 + 1, math.MaxInt, -1, math.MinInt} {
				want, e := may(match, none, tag)
				holds(t, match, none, tag, want, e)
				counts[strconv.FormatBool(want)+e.Error()]++
			}
		}
	}
	if counts["true"+api.OK.Error()] < 100 || counts["false"+api.OK.Error()] < 100 || counts["false"+api.ErrForm.Error()] < 100 {
		t.Errorf("too few of a sort: %v", counts)
	}
}
