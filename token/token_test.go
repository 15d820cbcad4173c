package token

import (
	"fmt"
	"math"
	"regexp"
	"slices"
	"strconv"
	"strings"
	"testing"

	"calepin/api"
	"calepin/trial"
)

// The chapter's form as a pattern: an oracle of another make than the package's.
var tokenForm = regexp.MustCompile(`^urn:calepin:([1-9][0-9]*)\.([1-9][0-9]*)$`)

// edges are numbers on both sides of each bound, also of those of the machine's own numbers.
var edges = []int{
	math.MinInt, math.MinInt + 1, -1 << 62, -1 << 32, -2, -1, 0, 1, 2, 3, 9, 10, 11, 17, 100, 1<<31 - 1, 1 << 31, 1<<32 - 1, 1 << 32,
	1<<62 - 1, 1 << 62, 1<<62 + 1, math.MaxInt - 1, math.MaxInt,
}

// parsed tells by the pattern what Parse must answer.
func parsed(s string) (api.Token, api.Errno) {
	m := tokenForm.FindStringSubmatch(s)
	if m == nil {
		return api.Token{}, api.ErrToken
	}
	book, e := strconv.ParseUint(m[1], 10, 64)
	at, f := strconv.ParseUint(m[2], 10, 64)
	if e != nil || f != nil || at > 1<<62 || book > at {
		return api.Token{}, api.ErrToken
	}
	return api.Token{Book: int(book), At: int(at)}, api.OK
}

// parses asks that Parse answers just this.
func parses(t *testing.T, s string, want api.Token, fault api.Errno) {
	t.Helper()
	if got, e := Parse(s); got != want || e != fault {
		t.Errorf("Parse(%q): %v %d, want %v %d", s, got, e, want, fault)
	}
}

// asPattern asks that Parse answers what the pattern does, that what is read is printed as it stood, and tells whether it is a token.
func asPattern(t *testing.T, s string) bool {
	t.Helper()
	want, fault := parsed(s)
	parses(t, s, want, fault)
	if fault != api.OK {
		return false
	}
	prints(t, want, s)
	return true
}

// prints asks that Print answers just this.
func prints(t *testing.T, k api.Token, want string) {
	t.Helper()
	if got := Print(k); got != want {
		t.Errorf("Print(%v): %q, want %q", k, got, want)
	}
}

// printsRight asks that Print answers the token's text or the empty one, and that what is printed is parsed.
func printsRight(t *testing.T, book, at int) {
	t.Helper()
	k := api.Token{Book: book, At: at}
	s := fmt.Sprintf("urn:calepin:%d.%d", book, at)
	if book < 1 || book > 1<<62 || at < book || at > 1<<62 {
		prints(t, k, "")
		parses(t, s, api.Token{}, api.ErrToken)
		return
	}
	prints(t, k, s)
	parses(t, s, k, api.OK)
}

// P11.1: all pairs of the edges, of the powers of two and of ten and what is beside them, and of small numbers.
func TestPrint(t *testing.T) {
	prints(t, api.Token{Book: 3, At: 17}, "urn:calepin:3.17")
	prints(t, api.Token{Book: 3, At: 3}, "urn:calepin:3.3")
	prints(t, api.Token{Book: 3, At: 2}, "")
	prints(t, api.Token{}, "")
	prints(t, api.Token{At: 1}, "")
	ns := slices.Clone(edges)
	for i := range 63 {
		ns = append(ns, 1<<i-1, 1<<i, 1<<i+1)
	}
	for ten := 1; ten <= math.MaxInt/10; ten *= 10 {
		ns = append(ns, ten-1, ten, ten+1, -ten)
	}
	for _, book := range ns {
		for _, at := range ns {
			printsRight(t, book, at)
		}
	}
	for book := range 150 {
		for at := range 150 {
			printsRight(t, book-10, at-10)
		}
	}
}

// P11.1: texts that are tokens, and such as are just beside one.
func TestParseTexts(t *testing.T) {
	parses(t, "urn:calepin:3.17", api.Token{Book: 3, At: 17}, api.OK)
	parses(t, "urn:calepin:1.1", api.Token{Book: 1, At: 1}, api.OK)
	parses(t, "urn:calepin:9.10", api.Token{Book: 9, At: 10}, api.OK)
	parses(t, "urn:calepin:1.4611686018427387904", api.Token{Book: 1, At: 1 << 62}, api.OK)
	parses(t, "urn:calepin:4611686018427387904.4611686018427387904", api.Token{Book: 1 << 62, At: 1 << 62}, api.OK)
	for _, s := range []string{
		"", ".", "3.17", ":3.17", "calepin:3.17", "urn:3.17", "urn:calepin3.17", "urn:calepin::3.17", "urn:calepin.3.17", "URN:calepin:3.17", "urn:Calepin:3.17", "urn:CALEPIN:3.17", "urn:calepin:urn:calepin:3.17", "http://calepin/3.17",
		"urn:calepin:", "urn:calepin:.", "urn:calepin:3", "urn:calepin:3.", "urn:calepin:.17", "urn:calepin:3,17", "urn:calepin:3:17", "urn:calepin:3 17", "urn:calepin:317", "urn:calepin:3..17", "urn:calepin:.3.17", "urn:calepin:3.17.", "urn:calepin:3.17.18",
		"urn:calepin:3.2", "urn:calepin:10.9", "urn:calepin:2.1", "urn:calepin:4611686018427387904.4611686018427387903",
		"urn:calepin:03.4", "urn:calepin:3.04", "urn:calepin:00.4", "urn:calepin:0.4", "urn:calepin:0.0", "urn:calepin:3.0", "urn:calepin:3.00",
		"urn:calepin:+3.4", "urn:calepin:3.+4", "urn:calepin:-3.4", "urn:calepin:3.-4", "urn:calepin:-4.-3", "urn:calepin:0x3.4", "urn:calepin:3.1_7", "urn:calepin:3.1e3", "urn:calepin:a.b", "urn:calepin:*.*", "urn:calepin:3.٤", "urn:calepin:３.４",
		" urn:calepin:3.17", "urn:calepin:3.17 ", "urn:calepin: 3.17", "urn:calepin:3 .17", "urn:calepin:3. 17", "urn:calepin:3.17\n", "urn:calepin:3.17\r\n", "\turn:calepin:3.17", "urn:calepin:3.17\x00", "urn:calepin:3\x00.17", "\xffurn:calepin:3.17", "<urn:calepin:3.17>", "\"urn:calepin:3.17\"", "urn%3Acalepin:3.17", "urn:calepin:3%2E17",
		"urn:calepin:1.4611686018427387905", "urn:calepin:4611686018427387905.4611686018427387905", "urn:calepin:1.9223372036854775807", "urn:calepin:1.9223372036854775808", "urn:calepin:1.18446744073709551615", "urn:calepin:1.18446744073709551616", "urn:calepin:1.18446744073709551617",
		"urn:calepin:18446744073709551617.1", "urn:calepin:18446744073709551617.18446744073709551619", "urn:calepin:1." + strings.Repeat("9", 1000), "urn:calepin:" + strings.Repeat("9", 1000) + "." + strings.Repeat("9", 1000),
	} {
		parses(t, s, api.Token{}, api.ErrToken)
	}
}

// P11.1: all short texts of the pieces that matter, alone and behind what stands ahead of the digits.
func TestParseShortTexts(t *testing.T) {
	right := 0
	count := func(s string) {
		if asPattern(t, s) {
			right++
		}
	}
	trial.Every([]string{"0", "1", "2", ".", "-", " ", "x"}, 6, func(s string) { count("urn:calepin:" + s) })
	trial.Every([]string{"urn", "calepin", ":", "urn:calepin:", "1.2", ".", "3", " "}, 5, count)
	if right < 200 {
		t.Errorf("only %d were tokens", right)
	}
}

// P11.1: each byte laid in, put for another one, and taken out, at each place of tokens.
func TestParseBytes(t *testing.T) {
	for _, s := range []string{"urn:calepin:3.17", "urn:calepin:12.12", "urn:calepin:10.2000", "urn:calepin:4611686018427387904.4611686018427387904", "urn:calepin:461168601842738790.461168601842738790"} {
		if !asPattern(t, s) {
			t.Errorf("%q is a token", s)
		}
		trial.Beside(s, func(s string) { asPattern(t, s) })
	}
}

// P11.1: a token's beginnings and ends aren't taken for it.
func TestParsePieces(t *testing.T) {
	const s = "urn:calepin:30.4567"
	right := 0
	for from := range len(s) + 1 {
		for to := from; to <= len(s); to++ {
			if asPattern(t, s[from:to]) {
				right++
			}
		}
	}
	// 30.45, 30.456 and 30.4567: 4 alone is ahead of 30.
	if right != 3 {
		t.Errorf("%d of its pieces are tokens", right)
	}
}

// checks asks that Check answers just this.
func checks(t *testing.T, k api.Token, book, low, high int, want api.Errno) {
	t.Helper()
	if got := Check(k, book, low, high); got != want {
		t.Errorf("Check(%v, %d, %d, %d): %d, want %d", k, book, low, high, got, want)
	}
}

// P11.2: what is ordinary, both ends, and each of the three that it fails by.
func TestCheck(t *testing.T) {
	k := api.Token{Book: 3, At: 17}
	for _, x := range [][2]int{{3, 20}, {17, 17}, {17, 18}, {16, 17}, {-1, 17}, {math.MinInt, math.MaxInt}, {17, math.MaxInt}} {
		checks(t, k, 3, x[0], x[1], api.OK)
		checks(t, k, 2, x[0], x[1], api.ErrToken)
		checks(t, k, 4, x[0], x[1], api.ErrToken)
		checks(t, k, 17, x[0], x[1], api.ErrToken)
		checks(t, k, 0, x[0], x[1], api.ErrToken)
		checks(t, k, -3, x[0], x[1], api.ErrToken)
	}
	for _, x := range [][2]int{{18, 20}, {3, 16}, {18, 16}, {20, 3}, {17, 3}, {20, 17}, {18, 18}, {16, 16}, {math.MaxInt, math.MinInt}, {math.MinInt, -17}} {
		checks(t, k, 3, x[0], x[1], api.ErrToken)
	}
}

// P11.2: all fours of small numbers, and of the edges.
func TestCheckAll(t *testing.T) {
	small := []int{-2, -1, 0, 1, 2, 3, 4, 5, 6}
	counts := map[api.Errno]int{}
	for _, ns := range [][]int{small, edges} {
		for _, at := range ns {
			for _, low := range ns {
				for _, high := range ns {
					for _, book := range []int{-1, 0, 1, 4, 1 << 62, math.MinInt} {
						within := api.ErrToken
						if min(at, low) == low && max(at, high) == high {
							within = api.OK
						}
						checks(t, api.Token{Book: book, At: at}, book, low, high, within)
						checks(t, api.Token{Book: book, At: at}, book^1, low, high, api.ErrToken)
						counts[within]++
					}
				}
			}
		}
	}
	if counts[api.OK] < 1000 || counts[api.ErrToken] < 1000 {
		t.Errorf("too few of a sort: %v", counts)
	}
}

// P11.1, P11.2: a token that was printed and parsed is good for its own collection from its own change on, and for no other.
func TestThereAndBack(t *testing.T) {
	draws := trial.Draws(11)
	for range 20000 {
		book := 1 + draws.Below(1<<(1+draws.Below(30)))
		at := book + draws.Below(1<<(1+draws.Below(30)))
		k, e := Parse(Print(api.Token{Book: book, At: at}))
		if e != api.OK {
			t.Fatalf("%d.%d: %d", book, at, e)
		}
		checks(t, k, book, book, at, api.OK)
		checks(t, k, book, at, at+1, api.OK)
		checks(t, k, book, at+1, at+2, api.ErrToken)
		checks(t, k, book, book, at-1, api.ErrToken)
		checks(t, k, book+1, book, at, api.ErrToken)
	}
}
