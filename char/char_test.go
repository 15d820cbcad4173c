package char

import (
	"strings"
	"testing"
)

// encode lays a code point in the given number of bytes, whether or not that is allowed.
func encode(r uint32, size int) string {
	switch size {
	case 1:
		return string([]byte{byte(r)})
	case 2:
		return string([]byte{0xc0 | byte(r>>6), 0x80 | byte(r&63)})
	case 3:
		return string([]byte{0xe0 | byte(r>>12), 0x80 | byte(r>>6&63), 0x80 | byte(r&63)})
	}
	return string([]byte{0xf0 | byte(r>>18), 0x80 | byte(r>>12&63), 0x80 | byte(r>>6&63), 0x80 | byte(r&63)})
}

// shortest is how many bytes a code point needs.
func shortest(r uint32) int {
	switch {
	case r < 0x80:
		return 1
	case r < 0x800:
		return 2
	case r < 0x10000:
		return 3
	}
	return 4
}

// may tells by the chapter's words whether a code point may stand in a valid text.
func may(r uint32) bool {
	if r == 9 || r == 10 || r == 13 {
		return true
	}
	return r >= 32 && r != 127 && (r < 0xd800 || r > 0xdfff) && r <= 0x10ffff
}

// P1.1: every code point in every length that can hold it, also too long ones, and those above 10FFFF.
func TestValidCodePoints(t *testing.T) {
	most := []uint32{0, 0x7f, 0x7ff, 0xffff, 0x1fffff}
	for size := 1; size <= 4; size++ {
		for r := uint32(0); r <= most[size]; r++ {
			want := may(r) && size == shortest(r)
			if Valid(encode(r, size)) != want {
				t.Fatalf("code point %x in %d bytes: want %v", r, size, want)
			}
		}
	}
}

// P1.1: a character behind, between and ahead of others counts as it does alone.
func TestValidPlaces(t *testing.T) {
	for r := uint32(0); r < 0x3000; r++ {
		c := encode(r, shortest(r))
		for _, s := range []string{"a" + c, c + "a", "é" + c + "漢", "😀" + c} {
			if Valid(s) != may(r) {
				t.Fatalf("%q: want %v", s, may(r))
			}
		}
	}
}

// P1.1: ordinary texts, the edges by name, and bytes that are no UTF-8.
func TestValidTexts(t *testing.T) {
	good := []string{"", "a", "BEGIN:VCARD\r\nFN:Jo\r\n", "\t\n\r", " ~", "\u0080", "\u009f", "\u00a0", "\u07ff", "\u0800", "\ud7ff", "\ue000", "\ufeff", "\ufffd", "\uffff", "\U00010000", "\U0010ffff", strings.Repeat("é漢😀", 30000)}
	for _, s := range good {
		if !Valid(s) {
			t.Errorf("%q isn't valid", s)
		}
	}
	bad := []string{
		"\x00", "\x08", "\x0b", "\x0c", "\x0e", "\x1b", "\x1f", "\x7f",
		"\x80", "\xbf", "\xff", "\xfe", "\xc0", "\xc2", "\xe2\x82", "\xf0\x9f\x98", "a\xf0\x9f\x98b",
		"\xc0\xaf", "\xc1\xbf", "\xe0\x9f\xbf", "\xf0\x8f\xbf\xbf",
		"\xed\xa0\x80", "\xed\xbf\xbf", "\xed\xa0\xbd\xed\xb8\x80",
		"\xf4\x90\x80\x80", "\xf5\x80\x80\x80", "\xf8\x88\x80\x80\x80", "\xfc\x84\x80\x80\x80\x80",
		"\xc3a", "\xe2\x82a", "é\x80", "\ufffd\xff",
		strings.Repeat("é", 30000) + "\x00", strings.Repeat("é", 30000) + "\xc3",
	}
	for _, s := range bad {
		if Valid(s) {
			t.Errorf("%q is valid", s)
		}
	}
}

const (
	greats = "ABCDEFGHIJKLMNOPQRSTUVWXYZ"
	smalls = "abcdefghijklmnopqrstuvwxyz"
)

// turned is the letter of the other list at the byte's place in the one, or the byte itself.
func turned(b byte, one, other string) string {
	if i := strings.IndexByte(one, b); i >= 0 {
		return other[i : i+1]
	}
	return string([]byte{b})
}

// P1.1: each byte alone and among others; those that are no letters stay.
func TestLettersByByte(t *testing.T) {
	for i := 0; i < 256; i++ {
		b := byte(i)
		s := string([]byte{b})
		low, up := turned(b, greats, smalls), turned(b, smalls, greats)
		if Lower(s) != low || Lower("xX"+s+"é") != "xx"+low+"é" {
			t.Errorf("Lower of byte %d: %q", i, Lower(s))
		}
		if Upper(s) != up || Upper("xX"+s+"é") != "XX"+up+"é" {
			t.Errorf("Upper of byte %d: %q", i, Upper(s))
		}
	}
}

// P1.1: texts whose letters beyond a to z must stay, and bytes that are no text.
func TestLettersInTexts(t *testing.T) {
	rows := []struct{ s, low, up string }{
		{"", "", ""},
		{"Ab-1", "ab-1", "AB-1"},
		{greats, smalls, greats},
		{smalls, smalls, greats},
		{"@[`{", "@[`{", "@[`{"},
		{"Éé\u0130\u0131\u017fßΣσς\u212a", "Éé\u0130\u0131\u017fßΣσς\u212a", "Éé\u0130\u0131\u017fßΣσς\u212a"},
		{"A\xffb\x00C\xc3", "a\xffb\x00c\xc3", "A\xffB\x00C\xc3"},
		{strings.Repeat("aB", 40000), strings.Repeat("ab", 40000), strings.Repeat("AB", 40000)},
	}
	for _, r := range rows {
		if Lower(r.s) != r.low {
			t.Errorf("Lower(%q): %q", r.s, Lower(r.s))
		}
		if Upper(r.s) != r.up {
			t.Errorf("Upper(%q): %q", r.s, Upper(r.s))
		}
	}
}

// P1.1: any two bytes are the same just if one letter is the other, great or small.
func TestSameByByte(t *testing.T) {
	for i := 0; i < 256; i++ {
		for j := 0; j < 256; j++ {
			a, b := byte(i), byte(j)
			want := turned(a, greats, smalls) == turned(b, greats, smalls)
			if Same(string([]byte{a}), string([]byte{b})) != want {
				t.Errorf("Same of bytes %d and %d: want %v", i, j, want)
			}
		}
	}
}

// P1.1: texts of other lengths, of letters that only folding would join, of broken bytes.
func TestSameTexts(t *testing.T) {
	same := [][2]string{{"", ""}, {"begin:vCard", "BEGIN:Vcard"}, {"fN", "Fn"}, {"é", "é"}, {"A\xffb", "a\xffB"}}
	for _, p := range same {
		if !Same(p[0], p[1]) {
			t.Errorf("Same(%q, %q): false", p[0], p[1])
		}
	}
	unlike := [][2]string{{"a", ""}, {"", "a"}, {"a", "ab"}, {"ab", "a"}, {"ab", "ac"}, {"é", "É"}, {"k", "\u212a"}, {"s", "\u017f"}, {"\xff", "\xfe"}, {"\xff", "\ufffd"}, {"a ", "a"}}
	for _, p := range unlike {
		if Same(p[0], p[1]) {
			t.Errorf("Same(%q, %q): true", p[0], p[1])
		}
	}
}

const top = 1<<64 - 1

// P1.2: each number up to 1200 against each bound up to 120: it, if it isn't above; else 0 and false.
func TestNumberBounds(t *testing.T) {
	for n := uint64(0); n <= 1200; n++ {
		s := Decimal(n)
		for most := uint64(0); most <= 120; most++ {
			got, ok := Number(s, most)
			if n <= most && (got != n || !ok) || n > most && (got != 0 || ok) {
				t.Fatalf("Number(%q, %d): %d %v", s, most, got, ok)
			}
		}
	}
}

// P1.2: numbers at the ends of what 64 bits hold, and bounds beside them.
func TestNumberReads(t *testing.T) {
	rows := []struct {
		s       string
		most, n uint64
	}{
		{"0", 0, 0},
		{"0", top, 0},
		{"9", 9, 9},
		{"10", 10, 10},
		{"1234567890", top, 1234567890},
		{"4611686018427387904", 1 << 62, 1 << 62},
		{"9223372036854775808", 1 << 63, 1 << 63},
		{"10000000000000000000", top, 10000000000000000000},
		{"18446744073709551609", top, top - 6},
		{"18446744073709551610", top, top - 5},
		{"18446744073709551615", top, top},
		{"18446744073709551614", top - 1, top - 1},
	}
	for _, r := range rows {
		if n, ok := Number(r.s, r.most); n != r.n || !ok {
			t.Errorf("Number(%q, %d): %d %v", r.s, r.most, n, ok)
		}
	}
}

// P1.2: texts that are no number, or one above the bound, also one that 64 bits would wrap round.
func TestNumberRefuses(t *testing.T) {
	rows := []struct {
		s    string
		most uint64
	}{
		{"", 9}, {"", 0}, {"07", 9}, {"00", 9}, {"01", 0}, {"000", top}, {"10", 9}, {"1", 0}, {"20", 19},
		{"+1", top}, {"-1", top}, {"-0", top}, {" 1", top}, {"1 ", top}, {"1\n", top}, {"1.0", top}, {"1e3", top}, {"1_0", top},
		{"a", top}, {"1a", top}, {"a1", top}, {"1a1", top}, {"0x1", top}, {"0a", top}, {"/", top}, {":", top}, {"1/", top}, {"1:", top},
		{"\x00", top}, {"1\x00", top}, {"\xff", top}, {"\u0661", top}, {"\uff11", top},
		{"4611686018427387905", 1 << 62}, {"9223372036854775808", 1<<63 - 1},
		{"18446744073709551615", top - 1}, {"18446744073709551616", top}, {"18446744073709551620", top}, {"18446744073709551625", top},
		{"36893488147419103232", top}, {"184467440737095516160", top}, {"99999999999999999999", top},
		{"340282366920938463463374607431768211456", top}, {"340282366920938463463374607431768211457", top},
		{"1" + strings.Repeat("0", 64), top}, {strings.Repeat("9", 1000), top},
	}
	for _, r := range rows {
		if n, ok := Number(r.s, r.most); n != 0 || ok {
			t.Errorf("Number(%q, %d): %d %v", r.s, r.most, n, ok)
		}
	}
	for i := 0; i < 256; i++ {
		for _, s := range []string{string([]byte{byte(i)}), string([]byte{'1', byte(i)}), string([]byte{byte(i), '1'})} {
			digit := i >= '0' && i <= '9' && s != "01"
			if _, ok := Number(s, top); ok != digit {
				t.Errorf("Number(%q): %v", s, ok)
			}
		}
	}
}

// P1.2: the digits of a number, one by one.
func TestDecimalDigits(t *testing.T) {
	rows := []struct {
		n uint64
		s string
	}{
		{0, "0"}, {1, "1"}, {9, "9"}, {10, "10"}, {99, "99"}, {100, "100"}, {101, "101"}, {75, "75"}, {65536, "65536"},
		{1 << 32, "4294967296"}, {1 << 62, "4611686018427387904"},
		{1<<63 - 1, "9223372036854775807"}, {1 << 63, "9223372036854775808"}, {top, "18446744073709551615"},
	}
	for _, r := range rows {
		if Decimal(r.n) != r.s {
			t.Errorf("Decimal(%d): %q", r.n, Decimal(r.n))
		}
	}
}

// P1.2: what Decimal tells is read as itself, up to just that number and no less.
func TestDecimalIsRead(t *testing.T) {
	try := func(n uint64) {
		s := Decimal(n)
		if got, ok := Number(s, n); got != n || !ok {
			t.Errorf("Number(%q, %d): %d %v", s, n, got, ok)
		}
		if n == 0 {
			return
		}
		if got, ok := Number(s, n-1); got != 0 || ok {
			t.Errorf("Number(%q, %d): %d %v", s, n-1, got, ok)
		}
	}
	for n := uint64(0); n < 20000; n++ {
		try(n)
		try(top - n)
	}
	for i := 0; i < 64; i++ {
		try(1 << i)
		try(1<<i - 1)
	}
	for n := uint64(1); n <= top/10; n *= 10 {
		try(n)
		try(n*10 - 1)
	}
}
