package http

import (
	"bufio"
	"io"
	stock "net/http"
	"reflect"
	"regexp"
	"slices"
	"strconv"
	"strings"
	"testing"

	"calepin/api"
	"calepin/trial"
)

// The chapter's form as patterns: an oracle of another make than the package's.
const (
	requestForm  = `([A-Z]{1,16}) ([\x21-\x7e]{1,256}) HTTP/1\.1\r\n`
	responseForm = `HTTP/1\.1 ([1-5][0-9]{2}) [\x20-\x7e]*\r\n`
	nameForm     = `[A-Za-z0-9-]{1,64}`
	fieldForm    = `(` + nameForm + `):[ \t]*([\t\x20-\x7e]*?)[ \t]*\r\n`
)

var (
	requestHead  = regexp.MustCompile(`^` + requestForm + `((?:` + fieldForm + `)*)\r\n$`)
	responseHead = regexp.MustCompile(`^` + responseForm + `((?:` + fieldForm + `)*)\r\n$`)
	fieldRows    = regexp.MustCompile(fieldForm)
	oneField     = regexp.MustCompile(`^` + nameForm + `: (?:[\x21-\x7e](?:[\t\x20-\x7e]*[\x21-\x7e])?)?$`)
	lengthNamed  = regexp.MustCompile(`^(?i)content-length$`)
	codingNamed  = regexp.MustCompile(`^(?i)transfer-encoding$`)
	lengthForm   = regexp.MustCompile(`^(?:0|[1-9][0-9]{0,4})$`)
)

// split is the head of b and what stands behind it, or the error where there is no head's end.
func split(b string) (head, rest string, fault api.Errno) {
	for i := 4; i <= len(b) && i <= 8192; i++ {
		if b[i-4:i] == "\r\n\r\n" {
			return b[:i], b[i:], api.OK
		}
	}
	if len(b) < 8192 {
		return "", "", api.ErrMore
	}
	return "", "", api.ErrHTTP
}

// wanted is what is found in b: the parts of the first row, the fields, the body, and how many bytes it is.
func wanted(b string, form *regexp.Regexp) (first []string, fields []api.Field, body string, size int, fault api.Errno) {
	head, rest, fault := split(b)
	if fault != api.OK {
		return nil, nil, "", 0, fault
	}
	m := form.FindStringSubmatch(head)
	if m == nil {
		return nil, nil, "", 0, api.ErrHTTP
	}
	length, lengths, all := 0, 0, 0
	// The last two groups of the form are those of a field.
	for _, f := range fieldRows.FindAllStringSubmatch(m[len(m)-3], -1) {
		all++
		if !lengthNamed.MatchString(f[1]) {
			fields = append(fields, api.Field{Name: f[1], Value: f[2]})
		}
		if lengthNamed.MatchString(f[1]) {
			lengths++
			length, _ = strconv.Atoi(f[2])
		}
		if codingNamed.MatchString(f[1]) || lengthNamed.MatchString(f[1]) && !lengthForm.MatchString(f[2]) {
			return nil, nil, "", 0, api.ErrHTTP
		}
	}
	switch {
	case all > 32, lengths > 1, length > 65536:
		return nil, nil, "", 0, api.ErrHTTP
	case length > len(rest):
		return nil, nil, "", 0, api.ErrMore
	}
	return m[1 : len(m)-3], fields, rest[:length], len(head) + length, api.OK
}

// wantedRequest is what ParseRequest should answer.
func wantedRequest(b string) (api.Request, int, api.Errno) {
	first, fields, body, size, fault := wanted(b, requestHead)
	if fault != api.OK {
		return api.Request{}, 0, fault
	}
	return api.Request{Method: first[0], Target: first[1], Fields: fields, Body: body}, size, api.OK
}

// wantedResponse is what ParseResponse should answer.
func wantedResponse(b string) (api.Response, int, api.Errno) {
	first, fields, body, size, fault := wanted(b, responseHead)
	if fault != api.OK {
		return api.Response{}, 0, fault
	}
	status, _ := strconv.Atoi(first[0])
	return api.Response{Status: status, Fields: fields, Body: body}, size, api.OK
}

// words are those of the chapter, by status.
func words(status int) string {
	known := map[int]string{200: "OK", 201: "Created", 204: "No Content", 207: "Multi-Status", 400: "Bad Request", 403: "Forbidden", 404: "Not Found", 405: "Method Not Allowed", 409: "Conflict",
		412: "Precondition Failed", 413: "Content Too Large", 421: "Misdirected Request", 503: "Service Unavailable", 507: "Insufficient Storage"}
	if s, ok := known[status]; ok {
		return s
	}
	return "Other"
}

// printed is a message as bytes, whose first row is right by ok.
func printed(first string, ok bool, fields []api.Field, body string) (string, api.Errno) {
	rows := []string{first}
	for _, f := range fields {
		row := f.Name + ": " + f.Value
		ok = ok && oneField.MatchString(row) && !strings.Contains(f.Name, ":") && !lengthNamed.MatchString(f.Name) && !codingNamed.MatchString(f.Name)
		rows = append(rows, row)
	}
	rows = append(rows, "Content-Length: "+strconv.Itoa(len(body)), "", "")
	head := strings.Join(rows, "\r\n")
	switch {
	case !ok || len(fields) > 31:
		return "", api.ErrHTTP
	case len(body) > 65536 || len(head) > 8192:
		return "", api.ErrLong
	}
	return head + body, api.OK
}

// printedRequest is what PrintRequest should answer.
func printedRequest(r api.Request) (string, api.Errno) {
	row := r.Method + " " + r.Target + " HTTP/1.1"
	m := regexp.MustCompile(`^` + requestForm + `$`).FindStringSubmatch(row + "\r\n")
	return printed(row, m != nil && m[1] == r.Method, r.Fields, r.Body)
}

// printedResponse is what PrintResponse should answer.
func printedResponse(r api.Response) (string, api.Errno) {
	row := "HTTP/1.1 " + strconv.Itoa(r.Status) + " " + words(r.Status)
	return printed(row, r.Status >= 100 && r.Status <= 599, r.Fields, r.Body)
}

// same tells whether two lists of fields are one, nil and empty lists being so.
func same(a, b []api.Field) bool {
	return slices.Equal(a, b)
}

// requestIs asks that ParseRequest answers just this.
func requestIs(t *testing.T, b string, want api.Request, size int, fault api.Errno) {
	t.Helper()
	r, n, e := ParseRequest(b)
	if r.Method != want.Method || r.Target != want.Target || !same(r.Fields, want.Fields) || r.Body != want.Body || n != size || e != fault {
		t.Fatalf("ParseRequest(%q): %q %d %d, want %q %d %d", b, r, n, e, want, size, fault)
	}
}

// responseIs asks that ParseResponse answers just this.
func responseIs(t *testing.T, b string, want api.Response, size int, fault api.Errno) {
	t.Helper()
	r, n, e := ParseResponse(b)
	if r.Status != want.Status || !same(r.Fields, want.Fields) || r.Body != want.Body || n != size || e != fault {
		t.Fatalf("ParseResponse(%q): %v %d %d, want %v %d %d", b, r, n, e, want, size, fault)
	}
}

// parseShould asks that both readers answer what the patterns say.
func parseShould(t *testing.T, b string) {
	t.Helper()
	r, n, e := wantedRequest(b)
	requestIs(t, b, r, n, e)
	x, n, e := wantedResponse(b)
	responseIs(t, b, x, n, e)
}

// bothFail asks that both readers answer this error and nothing else.
func bothFail(t *testing.T, fault api.Errno, messages ...string) {
	t.Helper()
	for _, b := range messages {
		requestIs(t, b, api.Request{}, 0, fault)
		responseIs(t, b, api.Response{}, 0, fault)
	}
}

// behinds are what may stand behind a message.
func behinds() []string {
	return []string{"", "\r", "\r\n", "\r\n\r\n", "x", "\x00\xff", "GET / HTTP/1.1\r\n\r\n", "HTTP/1.1 200 OK\r\n\r\n", "Content-Length: 1\r\n\r\nx", strings.Repeat("y", 70000)}
}

// printRequestShould asks that PrintRequest answers what it should, and that it is parsed as itself.
func printRequestShould(t *testing.T, r api.Request) api.Errno {
	t.Helper()
	want, fault := printedRequest(r)
	b, e := PrintRequest(r)
	if b != want || e != fault {
		t.Fatalf("PrintRequest(%q): %q %d, want %q %d", r, b, e, want, fault)
	}
	if e == api.OK {
		for _, behind := range behinds() {
			requestIs(t, b+behind, r, len(b), api.OK)
		}
		requestIs(t, b[:len(b)-1], api.Request{}, 0, api.ErrMore)
	}
	return e
}

// printResponseShould asks that PrintResponse answers what it should, and that it is parsed as itself.
func printResponseShould(t *testing.T, r api.Response) api.Errno {
	t.Helper()
	want, fault := printedResponse(r)
	b, e := PrintResponse(r)
	if b != want || e != fault {
		t.Fatalf("PrintResponse(%v): %q %d, want %q %d", r, b, e, want, fault)
	}
	if e == api.OK {
		for _, behind := range behinds() {
			responseIs(t, b+behind, r, len(b), api.OK)
		}
		responseIs(t, b[:len(b)-1], api.Response{}, 0, api.ErrMore)
	}
	return e
}

// printShould asks it of a request and a response with the same fields and body.
func printShould(t *testing.T, body string, fields ...api.Field) api.Errno {
	t.Helper()
	e := printRequestShould(t, api.Request{Method: "PUT", Target: "/a/x", Fields: fields, Body: body})
	if x := printResponseShould(t, api.Response{Status: 207, Fields: fields, Body: body}); x != e {
		t.Fatalf("the one is answered %d, the other %d", e, x)
	}
	return e
}

// rowsOf is a head or what is like one: each row ended.
func rowsOf(rows ...string) string {
	return strings.Join(rows, "\r\n") + "\r\n"
}

// withRows asks that both readers answer what the patterns say of a message with such rows of fields, and a body.
func withRows(t *testing.T, body string, rows ...string) {
	t.Helper()
	for _, first := range []string{"GET /a/ HTTP/1.1", "HTTP/1.1 200 OK"} {
		parseShould(t, rowsOf(append(append([]string{first}, rows...), "")...)+body)
	}
}

// everyByte calls f with each byte, as a text.
func everyByte(f func(c string)) {
	for i := range 256 {
		f(string([]byte{byte(i)}))
	}
}

// draws is a row of numbers, the same ones at each run, and what is made of them.
type draws struct{ trial.Draws }

// message is the bytes of a request or a response, most often one without a fault, and something behind it.
func (d *draws) message() string {
	s := d.Of("GET / HTTP/1.1\r\n", "PROPFIND /a%20b/x?y HTTP/1.1\r\n", "HTTP/1.1 200 OK\r\n", "HTTP/1.1 599 \r\n", "HTTP/1.1 404 Not here: at all\r\n")
	for range d.Below(5) {
		s += d.Of("Depth", "x-1", "X", "If-Match", "content-type", "Content-Lengt", "-") + ":" + d.Of("", " ", "\t ", "  ") + d.Of("", "1", "a b", "\"2\"\t,x", ":", "~!") + d.Of("", "", " ", "\t") + "\r\n"
	}
	if d.Below(3) > 0 {
		s += d.Of("Content-Length", "content-length", "CONTENT-LENGTH") + ":" + d.Of("", " ", "\t") + d.Of("0", "1", "5", "5", "17") + d.Of("", " ") + "\r\n"
	}
	return s + "\r\n" + d.Of("", "12345", "\r\n\r\n\x00\xff", "some more bytes to read", "GET / HTTP/1.1\r\n\r\n")
}

// spoilt is s with some bytes taken out, put in or doubled.
func (d *draws) spoilt(s string) string {
	for range 1 + d.Below(2) {
		i := d.Below(len(s) + 1)
		j := min(len(s), i+d.Below(3))
		s = s[:i] + d.Of("", "", " ", "\t", "\r", "\n", "\r\n", "\r\n\r\n", ":", "A", "a", "0", "9", "-", "/", "\x00", "\x1f", "\x7f", "\xff", "é", "Transfer-Encoding: x\r\n", "Content-Length: 3\r\n", "Content-Length: 03\r\n", s[i:j]+s[i:j]) + s[j:]
	}
	return s
}

// P8.1, P8.2: the examples of the chapter.
func TestExamples(t *testing.T) {
	get := rowsOf("GET /a/ HTTP/1.1", "Depth: 1", "")
	if len(get) != 30 {
		t.Errorf("the example has %d bytes", len(get))
	}
	requestIs(t, get, api.Request{Method: "GET", Target: "/a/", Fields: []api.Field{{Name: "Depth", Value: "1"}}}, 30, api.OK)
	requestIs(t, get[:29], api.Request{}, 0, api.ErrMore)
	requestIs(t, rowsOf("GET /a/ HTTP/1.1", "X : 1", ""), api.Request{}, 0, api.ErrHTTP)
	if b, e := PrintResponse(api.Response{Status: 204}); b != rowsOf("HTTP/1.1 204 No Content", "Content-Length: 0", "") || e != api.OK {
		t.Errorf("PrintResponse of 204: %q %d", b, e)
	}
}

// P8.1: whole messages, and what stands behind them.
func TestParse(t *testing.T) {
	put := rowsOf("PUT /a/x HTTP/1.1", "if-match:\"2\"", "Content-Length: 5", "X-Seq:\t 7 \t", "") + "a\r\n\r\nb"
	want := api.Request{Method: "PUT", Target: "/a/x", Fields: []api.Field{{Name: "if-match", Value: `"2"`}, {Name: "X-Seq", Value: "7"}}, Body: "a\r\n\r\n"}
	requestIs(t, put, want, len(put)-1, api.OK)
	created := rowsOf("HTTP/1.1 201 Created", "ETag: \"2\"", "CONTENT-LENGTH:  3\t", "etag:", "") + "\x00\xff\r"
	answer := api.Response{Status: 201, Fields: []api.Field{{Name: "ETag", Value: `"2"`}, {Name: "etag"}}, Body: "\x00\xff\r"}
	for _, behind := range behinds() {
		requestIs(t, put+behind, want, len(put)-1, api.OK)
		responseIs(t, created+behind, answer, len(created), api.OK)
		requestIs(t, "GET / HTTP/1.1\r\n\r\n"+behind, api.Request{Method: "GET", Target: "/"}, 18, api.OK)
		responseIs(t, "HTTP/1.1 100 \r\n\r\n"+behind, api.Response{Status: 100}, 17, api.OK)
	}
}

// P8.1: ErrMore of each beginning of a message, at last of those that lack a part of the body.
func TestParseBeginnings(t *testing.T) {
	for _, b := range []string{rowsOf("PUT /a/x HTTP/1.1", "Depth: 1", "Content-Length: 12", "") + "0123456789ab", rowsOf("HTTP/1.1 207 Multi-Status", "Content-Length: 3", "X: y", "") + "abc"} {
		for i := range len(b) {
			faults := wantedErrors(b[:i])
			if faults[0] != api.ErrMore && faults[1] != api.ErrMore {
				t.Errorf("%q: the oracle wants %v", b[:i], faults)
			}
			parseShould(t, b[:i])
		}
		parseShould(t, b)
	}
	// What isn't whole isn't looked at yet.
	bothFail(t, api.ErrMore, "", "\r\n", "\r\n\r", "\n\n", "\x00\xff", "no head\r\nat all\r\n", " ", strings.Repeat("x", 8191), "\r\r\n\n\r\n", "GET / HTTP/1.1\n\n", "GET / HTTP/1.1\r\n\n\r\n", "GET / HTTP/1.1\r\r")
}

// wantedErrors are those of a request and of a response.
func wantedErrors(b string) [2]api.Errno {
	_, _, request := wantedRequest(b)
	_, _, response := wantedResponse(b)
	return [2]api.Errno{request, response}
}

// P8.1: a head's end counts among the first 8192 bytes alone.
func TestParseHeadBound(t *testing.T) {
	for _, first := range []string{"GET / HTTP/1.1\r\n", "HTTP/1.1 200 OK\r\n"} {
		for n := 8180; n <= 8200; n++ {
			head := first + "X: " + strings.Repeat("y", n-len(first)-7) + "\r\n\r\n"
			if len(head) != n {
				t.Fatalf("a head of %d bytes, not of %d", len(head), n)
			}
			for i := n - 8; i <= n; i++ {
				parseShould(t, head[:i])
				parseShould(t, head[:i]+"z")
			}
			parseShould(t, head+strings.Repeat("z", 100))
			got := wantedErrors(head)
			if good := got[0] == api.OK || got[1] == api.OK; good != (n <= 8192) {
				t.Errorf("a head of %d bytes: the oracle wants %v", n, got)
			}
		}
	}
	most := strings.Repeat("x", 8188) + "\r\n\r\n"
	bothFail(t, api.ErrHTTP, most, "x"+most, strings.Repeat("x", 8192), strings.Repeat("x", 8193), strings.Repeat("\r\n", 4096), strings.Repeat("x", 1<<20), "GET / HTTP/1.1\r\nX: "+strings.Repeat("y", 8180)+"\r\n\r\n")
	bothFail(t, api.ErrMore, strings.Repeat("x", 8191), strings.Repeat("x", 8188)+"\r\n\r")
	// The body may go beyond it.
	parseShould(t, rowsOf("GET / HTTP/1.1", "X: "+strings.Repeat("y", 8100), "Content-Length: 65536", "")+strings.Repeat("z", 65536))
}

// P8.1: what is up to the end, and no head.
func TestParseNoHead(t *testing.T) {
	bothFail(t, api.ErrHTTP, "\r\n\r\n", "\r\n\r\n\r\n", "\n\r\n\r\n", "\r\r\n\r\n", " \r\n\r\n", "x\r\n\r\n", "\x00\r\n\r\n", "Depth: 1\r\n\r\n", "\r\nGET / HTTP/1.1\r\n\r\n", "\r\nHTTP/1.1 200 OK\r\n\r\n")
	for _, row := range []string{"GET / HTTP/1.0", "GET / HTTP/1.1 ", " GET / HTTP/1.1", "GET  / HTTP/1.1", "GET /  HTTP/1.1", "GET / / HTTP/1.1", "GET /", "GET", "GET ", "GET / ", "GET  HTTP/1.1", " / HTTP/1.1", "GET / http/1.1", "GET / HTTP/1.1x", "GET / HTTP/11", "GET / HTTP/2",
		"get / HTTP/1.1", "GEt / HTTP/1.1", "G-T / HTTP/1.1", "G1 / HTTP/1.1", "GET\t/ HTTP/1.1", "GET /\tHTTP/1.1", "GET /é HTTP/1.1", "GET /\x7f HTTP/1.1", "GET / HTTP/1.1\r", "GET / HTTP/1.1\n", "GET / HTTP/1.1\nX: y",
		"HTTP/1.1 200", "HTTP/1.1", "HTTP/1.1 ", "HTTP/1.1  200 OK", "HTTP/1.1 20 OK", "HTTP/1.1 2000 OK", "HTTP/1.1 099 OK", "HTTP/1.1 000 OK", "HTTP/1.1 600 OK", "HTTP/1.1 999 OK", "HTTP/1.1 0200 OK", "HTTP/1.1 +20 OK", "HTTP/1.1 -20 OK", "HTTP/1.1 2 0 OK", "HTTP/1.1 20x OK", "HTTP/1.1 2e1 OK",
		"HTTP/1.0 200 OK", "http/1.1 200 OK", "HTTP/1.1\t200 OK", "HTTP/1.1 200\tOK", "HTTP/1.1 200 O\tK", "HTTP/1.1 200 O\x7fK", "HTTP/1.1 200 \u00e9", "HTTP/1.1 200 \r", "HTTP/1.1 200 \n", " HTTP/1.1 200 OK", "HTTP/1.1200 OK", "HTTP/1.1 200OK", "HTTP/1.1 1844674407370955361620 OK", "HTTP/1.1 5 ", "HTTP/1.1 99 "} {
		bothFail(t, api.ErrHTTP, row+"\r\n\r\n")
		parseShould(t, rowsOf(row, "Depth: 1", ""))
	}
	// A head that is none comes ahead of a body that isn't whole.
	withRows(t, "", "Content-Length: 5", "X : 1")
	bothFail(t, api.ErrHTTP, rowsOf("GET  / HTTP/1.1", "Content-Length: 5", ""), rowsOf("GET / HTTP/1.1", "Content-Length: 5", "X : 1", ""), rowsOf("HTTP/1.1 200 OK", "X", "Content-Length: 5", ""))
}

// P8.1: each byte at each place of a message: put in, and in the place of another.
func TestParseEachByte(t *testing.T) {
	for _, b := range []string{rowsOf("PUT /a HTTP/1.1", "Ab-1:\tx y ", "Content-Length: 2", "") + "xy", rowsOf("HTTP/1.1 204 No C", "Z:", "content-length:1", "") + "x"} {
		for i := range len(b) + 1 {
			everyByte(func(c string) {
				parseShould(t, b[:i]+c+b[i:])
				if i < len(b) {
					parseShould(t, b[:i]+c+b[i+1:])
				}
			})
			for j := i; j <= len(b); j++ {
				parseShould(t, b[:i]+b[j:])
			}
		}
	}
}

// P8.1: the bounds on the parts of first rows.
func TestParseFirstRows(t *testing.T) {
	for _, n := range []int{0, 1, 2, 15, 16, 17, 18, 100} {
		r := api.Request{Method: strings.Repeat("M", n), Target: "/"}
		want := api.OK
		if n < 1 || n > 16 {
			want = api.ErrHTTP
		}
		row := r.Method + " / HTTP/1.1\r\n\r\n"
		parseShould(t, row)
		if _, _, e := ParseRequest(row); e != want {
			t.Errorf("a method of %d letters: %d", n, e)
		}
	}
	for _, n := range []int{0, 1, 2, 255, 256, 257, 258, 1000} {
		want := api.OK
		if n < 1 || n > 256 {
			want = api.ErrHTTP
		}
		row := "GET " + strings.Repeat("~", n) + " HTTP/1.1\r\n\r\n"
		parseShould(t, row)
		if _, _, e := ParseRequest(row); e != want {
			t.Errorf("a target of %d bytes: %d", n, e)
		}
	}
	for status := range 1200 {
		for _, digits := range []string{strconv.Itoa(status), "0" + strconv.Itoa(status), strconv.Itoa(status) + " "} {
			parseShould(t, "HTTP/1.1 "+digits+" x\r\n\r\n")
		}
	}
	everyByte(func(c string) {
		parseShould(t, "GET "+c+" HTTP/1.1\r\n\r\n")
		parseShould(t, c+" / HTTP/1.1\r\n\r\n")
		parseShould(t, "HTTP/1.1 200 "+c+"\r\n\r\n")
		parseShould(t, "HTTP/1.1 20"+c+" \r\n\r\n")
	})
	parseShould(t, "HTTP/1.1 200 "+strings.Repeat(" ~", 4000)+"\r\n\r\n")
	parseShould(t, "A ! HTTP/1.1\r\n\r\n")
}

// P8.1: names and values of fields.
func TestParseFields(t *testing.T) {
	for _, n := range []int{0, 1, 2, 63, 64, 65, 66, 1000} {
		withRows(t, "", strings.Repeat("n", n)+": 1")
		withRows(t, "", strings.Repeat("-", n)+":")
	}
	for _, row := range []string{"X:", "X: ", "X:\t", "X:  \t ", "X:y", "X: y", "X:\ty", "X: y ", "X:y\t \t", "X:y  z", "X: y\tz", "X: : ", "X::", "X:y:z", "X: ~!", "-:-", "9: 9", "x y: z", "X", "X y", ":", ": x", " X: y", "\tX: y", "X\t: y", "X_: y", "X.: y", "X/: y",
		"é: y", "X: é", "X: \x7f", "X: \x1f", "X: \x00", "X: \r", "X: \n", "X: y\nZ: z", "X: y\rZ: z", "X: y\x0b", "X:\x0by", "X: \u00a0", "X: \xff", "\xff: x", "\x00: x", "X: y\r", "\n", "\r", " ", "\t"} {
		withRows(t, "", row)
		withRows(t, "", "A: b", row, "C: d")
		withRows(t, "abc", row, "Content-Length: 2")
	}
	everyByte(func(c string) {
		withRows(t, "", c+": 1")
		withRows(t, "", "a"+c+"b: 1")
		withRows(t, "", "X:"+c)
		withRows(t, "", "X: a"+c)
		withRows(t, "", "X: a"+c+"b")
	})
}

// P8.1: at most 32 fields, that of the length among them.
func TestParseManyFields(t *testing.T) {
	for n := range 40 {
		rows := slices.Repeat([]string{"X: y"}, n)
		withRows(t, "", rows...)
		withRows(t, "abc", append(slices.Clone(rows), "Content-Length: 3")...)
		withRows(t, "abc", append([]string{"Content-Length: 3"}, rows...)...)
		r, _, e := ParseRequest(rowsOf(append(append([]string{"GET / HTTP/1.1"}, rows...), "Content-Length: 0", "")...))
		want := api.OK
		if n > 31 {
			want = api.ErrHTTP
		}
		if e != want || e == api.OK && len(r.Fields) != n {
			t.Errorf("%d fields and a length: %d %d", n, len(r.Fields), e)
		}
	}
	withRows(t, "", slices.Repeat([]string{"X:"}, 1500)...)
}

// P8.1: the length of the body, and its bound.
func TestParseLengths(t *testing.T) {
	body := strings.Repeat("b", 65536)
	for _, value := range []string{"0", "1", "3", "03", "00", "", " ", "+3", "-3", "3 3", "3,3", "3x", "x3", "0x3", "3.0", "1e1", "65535", "65536", "65537", "99999", "100000", "065536", "4294967299", "18446744073709551619", "36893488147419103235", strings.Repeat("9", 100), "\t3\t", " 3", "3 ", "٣"} {
		for _, name := range []string{"Content-Length", "content-length", "CONTENT-LENGTH", "cOnTeNt-LeNgTh"} {
			withRows(t, body, name+":"+value)
			withRows(t, body, "X: y", name+": "+value, "Z: 4")
			withRows(t, "ab", name+":"+value)
			withRows(t, "", name+":"+value)
		}
	}
	for _, more := range []string{"content-length: 3", "Content-Length: 4", "CONTENT-LENGTH: 0", "Content-Length: x", "Content-Length:"} {
		withRows(t, "abcd", "Content-Length: 3", more)
		withRows(t, "abcd", more, "X: y", "Content-Length: 3")
	}
	for _, name := range []string{"Content-Lengt", "Content-Lengths", "Content_Length", "Content-Length ", " Content-Length", "ContentLength", "Content-\u212aength", "X-Content-Length"} {
		withRows(t, "abcd", name+": 3")
		withRows(t, "abcd", name+": x", name+": y")
	}
	for _, n := range []int{65535, 65536} {
		b := rowsOf("PUT / HTTP/1.1", "Content-Length: "+strconv.Itoa(n), "")
		requestIs(t, b+body[:n], api.Request{Method: "PUT", Target: "/", Body: body[:n]}, len(b)+n, api.OK)
		requestIs(t, b+body[:n-1], api.Request{}, 0, api.ErrMore)
		requestIs(t, b+body[:n]+"x", api.Request{Method: "PUT", Target: "/", Body: body[:n]}, len(b)+n, api.OK)
	}
}

// P8.1: no field is named Transfer-Encoding.
func TestParseCodings(t *testing.T) {
	for _, name := range []string{"Transfer-Encoding", "transfer-encoding", "TRANSFER-ENCODING", "tRaNsFeR-eNcOdInG", "Transfer-Encodin", "Transfer-Encodings", "TransferEncoding", "X-Transfer-Encoding", "Transfer-Coding"} {
		withRows(t, "", name+": chunked")
		withRows(t, "", name+":")
		withRows(t, "abc", "Content-Length: 3", "X: y", name+": identity")
	}
	bothFail(t, api.ErrHTTP, rowsOf("GET / HTTP/1.1", "transfer-Encoding: identity", ""), rowsOf("HTTP/1.1 200 OK", "Content-Length: 9", "Transfer-Encoding:", ""))
}

// P8.1: drawn messages, as they are and spoilt.
func TestParseDrawn(t *testing.T) {
	d := draws{8}
	good := 0
	for range 60000 {
		b := d.message()
		if e := wantedErrors(b); e[0] == api.OK || e[1] == api.OK {
			good++
		}
		parseShould(t, b)
		parseShould(t, d.spoilt(b))
	}
	if good < 20000 {
		t.Errorf("only %d of the messages are some", good)
	}
}

// headerIs asks that the fields are those that the library found.
func headerIs(t *testing.T, b string, fields []api.Field, header stock.Header) {
	t.Helper()
	found := stock.Header{}
	for _, f := range fields {
		found.Add(f.Name, f.Value)
	}
	header.Del("Content-Length")
	if !reflect.DeepEqual(found, header) {
		t.Fatalf("%q: the fields are %v, the library's %v", b, found, header)
	}
}

// P8.1: ordinary messages are read as the library's own reader reads them.
func TestParseAsOthersDo(t *testing.T) {
	d := draws{81}
	held := 0
	for range 20000 {
		b := d.message()
		if r, n, e := ParseRequest(b); e == api.OK {
			held++
			in := bufio.NewReader(strings.NewReader(b[:n] + "behind"))
			x, err := stock.ReadRequest(in)
			if err != nil {
				t.Fatalf("%q: the library says %v", b, err)
			}
			body, err := io.ReadAll(x.Body)
			rest, _ := io.ReadAll(in)
			if err != nil || x.Method != r.Method || x.RequestURI != r.Target || string(body) != r.Body || string(rest) != "behind" {
				t.Fatalf("%q: %q, the library's %v %q %q", b, r, x, body, rest)
			}
			headerIs(t, b, r.Fields, x.Header)
		}
		if r, n, e := ParseResponse(b); e == api.OK && strings.Contains(strings.ToLower(b[:n]), "content-length:") {
			held++
			x, err := stock.ReadResponse(bufio.NewReader(strings.NewReader(b[:n]+"behind")), nil)
			if err != nil {
				t.Fatalf("%q: the library says %v", b, err)
			}
			body, err := io.ReadAll(x.Body)
			if err != nil || x.StatusCode != r.Status || string(body) != r.Body {
				t.Fatalf("%q: %v, the library's %v %q", b, r, x, body)
			}
			headerIs(t, b, r.Fields, x.Header)
		}
	}
	if held < 5000 {
		t.Errorf("only %d were held against the library", held)
	}
}

// P8.2, P8.4: the form of what is printed.
func TestPrint(t *testing.T) {
	fields := []api.Field{{Name: "If-Match", Value: `"2"`}, {Name: "x", Value: ""}, {Name: "x", Value: "a \tb"}}
	cases := []struct {
		r    api.Request
		want string
	}{
		{api.Request{Method: "GET", Target: "/"}, "GET / HTTP/1.1\r\nContent-Length: 0\r\n\r\n"},
		{api.Request{Method: "PUT", Target: "/a/x", Fields: fields, Body: "a\r\n\r\nb\x00\xff"}, "PUT /a/x HTTP/1.1\r\nIf-Match: \"2\"\r\nx: \r\nx: a \tb\r\nContent-Length: 8\r\n\r\na\r\n\r\nb\x00\xff"},
	}
	for _, c := range cases {
		if b, e := PrintRequest(c.r); b != c.want || e != api.OK {
			t.Errorf("PrintRequest(%q): %q %d, want %q", c.r, b, e, c.want)
		}
		printRequestShould(t, c.r)
	}
	r := api.Response{Status: 207, Fields: fields, Body: "é\n"}
	if b, e := PrintResponse(r); b != "HTTP/1.1 207 Multi-Status\r\nIf-Match: \"2\"\r\nx: \r\nx: a \tb\r\nContent-Length: 3\r\n\r\né\n" || e != api.OK {
		t.Errorf("PrintResponse(%v): %q %d", r, b, e)
	}
	for _, body := range []string{"", "x", "\r\n\r\n", "GET / HTTP/1.1\r\n\r\n", "\xff", strings.Repeat("x", 10), strings.Repeat("x", 65535), strings.Repeat("x", 65536)} {
		if e := printShould(t, body); e != api.OK {
			t.Errorf("a body of %d bytes: %d", len(body), e)
		}
		printShould(t, body, fields...)
	}
}

// P8.2: methods, targets and statuses that may not stand so.
func TestPrintFirstRows(t *testing.T) {
	for _, s := range []string{"", "A", "Z", "GET", "get", "GEt", "G T", " GET", "GET ", "G1", "G-T", "G\r\n", "G\x00", "É", "@", "[", strings.Repeat("M", 15), strings.Repeat("M", 16), strings.Repeat("M", 17), "GET / HTTP/1.1\r\nX: y\r\n\r\nGET", "GET /", "/ HTTP/1.1"} {
		printRequestShould(t, api.Request{Method: s, Target: "/"})
		printRequestShould(t, api.Request{Method: "GET", Target: s})
		printRequestShould(t, api.Request{Method: s, Target: s})
	}
	for _, n := range []int{254, 255, 256, 257, 258, 10000} {
		e := printRequestShould(t, api.Request{Method: "GET", Target: strings.Repeat("/", n)})
		if good := e == api.OK; good != (n <= 256) {
			t.Errorf("a target of %d bytes: %d", n, e)
		}
	}
	everyByte(func(c string) {
		for _, s := range []string{c, "G" + c, c + "G", "A" + c + "Z"} {
			printRequestShould(t, api.Request{Method: s, Target: "/"})
			printRequestShould(t, api.Request{Method: "GET", Target: s})
		}
	})
	for status := -1100; status < 1200; status++ {
		e := printResponseShould(t, api.Response{Status: status})
		if good := e == api.OK; good != (status >= 100 && status <= 599) {
			t.Errorf("the status %d: %d", status, e)
		}
	}
	for _, status := range []int{1<<63 - 1, -1 << 63, 1<<32 + 200, -200} {
		if b, e := PrintResponse(api.Response{Status: status}); b != "" || e != api.ErrHTTP {
			t.Errorf("the status %d: %q %d", status, b, e)
		}
	}
}

// P8.2: fields that may not stand so.
func TestPrintFields(t *testing.T) {
	names := []string{"", "X", "x-1", "-", "9", "X:", ":", "X ", " X", "X\t", "X Y", "X_Y", "é", "X\r\nY", "X: y\r\nZ", "\x00", "\xff", "Content-Length", "content-length", "CONTENT-length", "Transfer-Encoding", "transfer-encoding", "tRANSFER-ENCODING",
		"Content-Lengt", "Content-Lengths", "Transfer-Encodings", "Transfer-Encodin", strings.Repeat("n", 63), strings.Repeat("n", 64), strings.Repeat("n", 65), strings.Repeat("n", 1000)}
	values := []string{"", "y", "y z", "y\tz", " y", "y ", "\ty", "y\t", " ", "\t", ":", "y: z", "é", "\x7f", "y\x00", "\r\n", "y\r\nZ: z", "y\r", "y\n", "\xff", "\x1f", "~!", "0", "chunked", "\u00a0y"}
	for _, name := range names {
		for _, value := range values {
			f := api.Field{Name: name, Value: value}
			printShould(t, "body", f)
			printShould(t, "", api.Field{Name: "A", Value: "b"}, f, api.Field{Name: "C", Value: "d"})
		}
	}
	everyByte(func(c string) {
		for _, s := range []string{c, "a" + c, c + "a", "a" + c + "b"} {
			printShould(t, "", api.Field{Name: s, Value: "y"})
			printShould(t, "", api.Field{Name: "X", Value: s})
		}
	})
}

// P8.2: at most 31 fields, beside the length.
func TestPrintManyFields(t *testing.T) {
	for n := range 40 {
		e := printShould(t, "abc", slices.Repeat([]api.Field{{Name: "X", Value: "y"}}, n)...)
		if good := e == api.OK; good != (n <= 31) {
			t.Errorf("%d fields: %d", n, e)
		}
	}
}

// P8.2: the bounds on the body and the head; ErrHTTP comes first.
func TestPrintBounds(t *testing.T) {
	long := strings.Repeat("x", 65537)
	bad := api.Field{Name: "X", Value: " "}
	if printShould(t, long) != api.ErrLong || printShould(t, long+long) != api.ErrLong || printShould(t, long, bad) != api.ErrHTTP {
		t.Errorf("a body that is too long")
	}
	for _, body := range []string{"", strings.Repeat("x", 10), strings.Repeat("x", 99), strings.Repeat("x", 65536)} {
		for _, first := range []int{len("PUT /a/x HTTP/1.1\r\n"), len("HTTP/1.1 207 Multi-Status\r\n")} {
			room := 8192 - first - len("X: \r\nContent-Length: \r\n\r\n") - len(strconv.Itoa(len(body)))
			for n := room - 12; n <= room+12; n++ {
				f := api.Field{Name: "X", Value: strings.Repeat("y", n)}
				e := printRequestShould(t, api.Request{Method: "PUT", Target: "/a/x", Fields: []api.Field{f}, Body: body})
				x := printResponseShould(t, api.Response{Status: 207, Fields: []api.Field{f}, Body: body})
				if first == len("PUT /a/x HTTP/1.1\r\n") {
					x = e
				}
				if good := x == api.OK; good != (n <= room) {
					t.Errorf("a head of %d bytes: %d", 8192+n-room, x)
				}
				printRequestShould(t, api.Request{Method: "PUT", Target: "/a/x", Fields: []api.Field{f, bad}, Body: body})
			}
		}
	}
	printRequestShould(t, api.Request{Method: "", Target: "/", Body: long})
	printRequestShould(t, api.Request{Method: "GET", Target: "", Body: long})
	printResponseShould(t, api.Response{Status: 99, Body: long})
	printResponseShould(t, api.Response{Status: 600, Fields: []api.Field{{Name: "X", Value: long}}})
	if e := printShould(t, long, slices.Repeat([]api.Field{{Name: "X"}}, 32)...); e != api.ErrHTTP {
		t.Errorf("too many fields and too long a body: %d", e)
	}
}

// P8.4: drawn messages that were read are printed, and read as themselves.
func TestPrintDrawn(t *testing.T) {
	d := draws{84}
	good := 0
	for range 20000 {
		b := d.message()
		if d.Below(2) == 0 {
			b = d.spoilt(b)
		}
		if r, _, e := ParseRequest(b); e == api.OK {
			good++
			printRequestShould(t, r)
		}
		if r, _, e := ParseResponse(b); e == api.OK {
			good++
			printResponseShould(t, r)
		}
	}
	if good < 5000 {
		t.Errorf("only %d were printed", good)
	}
}

// P8.3: the first field of that name, without regard to letters' size.
func TestGet(t *testing.T) {
	fs := []api.Field{{Name: "Depth", Value: "1"}, {Name: "X-1", Value: ""}, {Name: "depth", Value: "2"}, {Name: "x-1", Value: "y"}, {Name: "é", Value: "z"}, {Name: "", Value: "none"}, {Name: "K", Value: "k"}}
	for name, value := range map[string]string{"Depth": "1", "depth": "1", "DEPTH": "1", "dEPTh": "1", "X-1": "", "x-1": "", "é": "z", "": "none", "k": "k"} {
		if v, ok := Get(fs, name); v != value || !ok {
			t.Errorf("Get(%q): %q %v, want %q", name, v, ok, value)
		}
	}
	for _, name := range []string{"Dept", "Depths", " Depth", "Depth ", "Depth:", "X_1", "x", "É", "\u212a", "D\u0065\u0301pth", "\xff"} {
		if v, ok := Get(fs, name); v != "" || ok {
			t.Errorf("Get(%q): %q %v, want none", name, v, ok)
		}
	}
	for _, none := range [][]api.Field{nil, {}} {
		if v, ok := Get(none, ""); v != "" || ok {
			t.Errorf("Get of no fields: %q %v", v, ok)
		}
	}
	if v, ok := Get(fs[2:], "DEPTH"); v != "2" || !ok {
		t.Errorf("Get of the later fields: %q %v", v, ok)
	}
}

// P8.3: the words for each status.
func TestReason(t *testing.T) {
	for status := -1000; status < 2000; status++ {
		if s := Reason(status); s != words(status) {
			t.Errorf("Reason(%d): %q, want %q", status, s, words(status))
		}
	}
	for _, status := range []int{1<<63 - 1, -1 << 63, 1<<32 + 200, 1<<16 + 200} {
		if s := Reason(status); s != "Other" {
			t.Errorf("Reason(%d): %q", status, s)
		}
	}
}

// Rule 5: fields that are handed in stay as they are, their spare room too.
func TestArgumentsStay(t *testing.T) {
	fs := append(make([]api.Field, 0, 9), api.Field{Name: "A", Value: "1"}, api.Field{Name: "b", Value: "2"}, api.Field{Name: "c", Value: " "})
	room := fs[:cap(fs)]
	before := slices.Clone(room)
	for n := range len(fs) + 1 {
		PrintRequest(api.Request{Method: "PUT", Target: "/", Fields: fs[:n], Body: "x"})
		PrintResponse(api.Response{Status: 200, Fields: fs[:n], Body: "x"})
		Get(fs[:n], "B")
	}
	if !slices.Equal(room, before) {
		t.Errorf("the fields were %v, are %v", before, room)
	}
}

// Rule 5: an answer is new memory.
func TestAnswersAreNew(t *testing.T) {
	rows := rowsOf("A: 1", "Content-Length: 1", "b: 2", "") + "x"
	want := []api.Field{{Name: "A", Value: "1"}, {Name: "b", Value: "2"}}
	for range 2 {
		r, _, _ := ParseRequest("GET / HTTP/1.1\r\n" + rows)
		x, _, _ := ParseResponse("HTTP/1.1 200 OK\r\n" + rows)
		if !same(r.Fields, want) || !same(x.Fields, want) {
			t.Errorf("the fields are %v and %v", r.Fields, x.Fields)
		}
		for _, fields := range [][]api.Field{r.Fields, x.Fields} {
			room := fields[:cap(fields)]
			for i := range room {
				room[i] = api.Field{Name: "changed"}
			}
		}
	}
}
