package http

import (
	"strings"

	"calepin/api"
	"calepin/char"
)

// What stands in each message.
const (
	version    = "HTTP/1.1"
	rowEnd     = "\r\n"
	headMark   = rowEnd + rowEnd // a head ends with the first one
	blanks     = " \t"           // they don't belong to a value's ends
	lengthName = "Content-Length"
	codingName = "Transfer-Encoding"
)

// The bounds of first rows.
const (
	mostMethod  = 16
	mostTarget  = 256
	leastStatus = 100
	mostStatus  = 599
)

// isMethod tells whether s is a method.
func isMethod(s string) bool {
	return s != "" && len(s) <= mostMethod && made(s, isGreat)
}

// isTarget tells whether s is a target.
func isTarget(s string) bool {
	return s != "" && len(s) <= mostTarget && made(s, isSeen)
}

// isField tells whether f may be a field, if it isn't asked what its name means.
func isField(f api.Field) bool {
	named := f.Name != "" && len(f.Name) <= api.MaxName && made(f.Name, inName)
	return named && made(f.Value, inValue) && strings.Trim(f.Value, blanks) == f.Value
}

// isLength tells whether f's name says how long the body is.
func isLength(f api.Field) bool {
	return char.Same(f.Name, lengthName)
}

// isCoding tells whether f's name says that the body is written in another way.
func isCoding(f api.Field) bool {
	return char.Same(f.Name, codingName)
}

// made tells whether s is of such bytes alone.
func made(s string, of func(b byte) bool) bool {
	for i := 0; i < len(s); i++ {
		if !of(s[i]) {
			return false
		}
	}
	return true
}

// isGreat tells whether b is a great letter.
func isGreat(b byte) bool {
	return 'A' <= b && b <= 'Z'
}

// isSeen tells whether b is a sign that isn't a blank.
func isSeen(b byte) bool {
	return '!' <= b && b <= '~'
}

// isPrinted tells whether b is a sign or a blank.
func isPrinted(b byte) bool {
	return b == ' ' || isSeen(b)
}

// inValue tells whether b may stand in a field's value.
func inValue(b byte) bool {
	return b == '\t' || isPrinted(b)
}

// inName tells whether b may stand in a field's name.
func inName(b byte) bool {
	return isGreat(b) || 'a' <= b && b <= 'z' || '0' <= b && b <= '9' || b == '-'
}
