// Package char is layer 1: texts, letters and numbers.
package char

import (
	"strconv"
	"unicode/utf8"
)

// Valid tells whether s is UTF-8 through and through, without controls.
func Valid(s string) bool {
	if !utf8.ValidString(s) {
		return false
	}
	// Bytes do here: in UTF-8 those of longer characters are all above 127.
	for i := 0; i < len(s); i++ {
		if control(s[i]) {
			return false
		}
	}
	return true
}

// control tells whether b is a control that no valid text has.
func control(b byte) bool {
	switch b {
	case '\t', '\n', '\r':
		return false
	case 127:
		return true
	}
	return b < ' '
}

// Lower is s with its great letters A to Z made small.
func Lower(s string) string {
	b := []byte(s)
	for i, x := range b {
		if 'A' <= x && x <= 'Z' {
			b[i] = x - 'A' + 'a'
		}
	}
	return string(b)
}

// Upper is s with its small letters a to z made great.
func Upper(s string) string {
	b := []byte(s)
	for i, x := range b {
		if 'a' <= x && x <= 'z' {
			b[i] = x - 'a' + 'A'
		}
	}
	return string(b)
}

// Same tells whether a and b are the same but for the size of letters.
func Same(a, b string) bool {
	return Lower(a) == Lower(b)
}

// Number reads s as a number of at most most: digits alone, without a nought ahead but in "0".
func Number(s string, most uint64) (uint64, bool) {
	if s == "" || len(s) > 1 && s[0] == '0' {
		return 0, false
	}
	var n uint64
	for i := 0; i < len(s); i++ {
		if s[i] < '0' || s[i] > '9' {
			return 0, false
		}
		d := uint64(s[i] - '0')
		// Asked ahead of the sum, which could go beyond 64 bits.
		if d > most || n > (most-d)/10 {
			return 0, false
		}
		n = n*10 + d
	}
	return n, true
}

// Decimal is n in digits, as Number reads them.
func Decimal(n uint64) string {
	return strconv.FormatUint(n, 10)
}
