package http

import (
	"strings"

	"calepin/api"
	"calepin/char"
)

// message is what a request and a response have alike, and how many bytes it is.
type message struct {
	fields []api.Field
	body   string
	size   int
}

// read is the message at the head of b, whose first row first takes, or refuses.
func read(b string, first func(row string) bool) (message, api.Errno) {
	end, e := headEnd(b)
	if e != api.OK {
		return message{}, e
	}
	rows := strings.Split(b[:end-len(headMark)], rowEnd)
	if !first(rows[0]) {
		return message{}, api.ErrHTTP
	}
	fields, length, ok := readFields(rows[1:])
	if !ok {
		return message{}, api.ErrHTTP
	}
	if len(b)-end < length {
		return message{}, api.ErrMore
	}
	size := end + length
	return message{fields: fields, body: b[end:size], size: size}, api.OK
}

// headEnd is the place behind the head of b, be it right or not.
func headEnd(b string) (int, api.Errno) {
	at := strings.Index(b[:min(len(b), api.MaxHead)], headMark)
	switch {
	case at >= 0:
		return at + len(headMark), api.OK
	case len(b) < api.MaxHead:
		return 0, api.ErrMore
	}
	return 0, api.ErrHTTP
}

// requestRow is the method and the target in a request's first row.
func requestRow(row string) (method, target string, ok bool) {
	method, rest, _ := strings.Cut(row, " ")
	target, last, _ := strings.Cut(rest, " ")
	return method, target, isMethod(method) && isTarget(target) && last == version
}

// responseRow is the status in a response's first row.
func responseRow(row string) (status int, ok bool) {
	rest, ours := strings.CutPrefix(row, version+" ")
	digits, words, parted := strings.Cut(rest, " ")
	// What is no number is 0, which is no status either.
	n, _ := char.Number(digits, mostStatus)
	return int(n), ours && parted && n >= leastStatus && made(words, isPrinted)
}

// readFields is the fields of a head but for the body's length, and that length.
func readFields(rows []string) (fields []api.Field, length int, ok bool) {
	if len(rows) > api.MaxFields {
		return nil, 0, false
	}
	told := false
	for _, row := range rows {
		f, ok := readField(row)
		switch {
		case !ok, isCoding(f), told && isLength(f):
			return nil, 0, false
		case isLength(f):
			n, ok := char.Number(f.Value, api.MaxText)
			if !ok {
				return nil, 0, false
			}
			length, told = int(n), true
		default:
			fields = append(fields, f)
		}
	}
	return fields, length, true
}

// readField is the field that a row is.
func readField(row string) (api.Field, bool) {
	name, value, parted := strings.Cut(row, ":")
	f := api.Field{Name: name, Value: strings.Trim(value, blanks)}
	return f, parted && isField(f)
}
