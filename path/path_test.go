package path

import (
	"net/url"
	"regexp"
	"strings"
	"testing"
	"unicode/utf8"

	"calepin/api"
	"calepin/trial"
)

// The chapter's form as patterns: an oracle of another make than the package's.
const segmentForm = `((?:[a-zA-Z0-9._~-]|%[0-9A-Fa-f]{2})+)`

var (
	bookForm = regexp.MustCompile(`^/` + segmentForm + `/$`)
	cardForm = regexp.MustCompile(`^/` + segmentForm + `/` + segmentForm + `$`)
	control  = regexp.MustCompile(`[\x00-\x08\x0B\x0C\x0E-\x1F\x7F]`)
)

// stands tells whether a segment stands for t.
func stands(t string) bool {
	return len(t) >= 1 && len(t) <= 64 && t != "." && t != ".." && utf8.ValidString(t) && !control.MatchString(t)
}

// written is t as a segment, which is what a query's value is but for its spaces.
func written(t string) string {
	return strings.ReplaceAll(url.QueryEscape(t), "+", "%20")
}

// meant is what all segments found stand for, false if one of them stands for nothing.
func meant(found []string) ([]string, bool) {
	var ts []string
	for _, s := range found {
		t, err := url.PathUnescape(s)
		if err != nil || !stands(t) {
			return nil, false
		}
		ts = append(ts, t)
	}
	return ts, true
}

// parsed is what Parse should answer.
func parsed(p string) (string, string, api.Errno) {
	if p == "/" {
		return "", "", api.OK
	}
	found := cardForm.FindStringSubmatch(p)
	if found == nil {
		found = bookForm.FindStringSubmatch(p)
	}
	if found == nil {
		return "", "", api.ErrPath
	}
	ts, ok := meant(found[1:])
	if !ok {
		return "", "", api.ErrPath
	}
	return ts[0], strings.Join(ts[1:], ""), api.OK
}

// path is what Of should answer.
func path(col, name string) (string, api.Errno) {
	switch {
	case col == "" && name == "":
		return "/", api.OK
	case !stands(col), name != "" && !stands(name):
		return "", api.ErrPath
	}
	return "/" + written(col) + "/" + written(name), api.OK
}

// segmentIs asks that Segment answers what it should for t.
func segmentIs(t *testing.T, s string) {
	t.Helper()
	want, fault := written(s), api.OK
	if !stands(s) {
		want, fault = "", api.ErrPath
	}
	if got, e := Segment(s); got != want || e != fault {
		t.Errorf("Segment(%q): %q %d, want %q %d", s, got, e, want, fault)
	}
}

// ofIs asks that Of answers what it should, and that it is parsed again.
func ofIs(t *testing.T, col, name string) {
	t.Helper()
	want, fault := path(col, name)
	got, e := Of(col, name)
	if got != want || e != fault {
		t.Errorf("Of(%q, %q): %q %d, want %q %d", col, name, got, e, want, fault)
	}
	if e != api.OK {
		return
	}
	if c, n, e := Parse(got); c != col || n != name || e != api.OK {
		t.Errorf("Parse(%q): %q %q %d, want %q %q", got, c, n, e, col, name)
	}
}

// parseIs asks that Parse answers just these texts, or none and this error.
func parseIs(t *testing.T, p, col, name string, fault api.Errno) {
	t.Helper()
	if c, n, e := Parse(p); c != col || n != name || e != fault {
		t.Errorf("Parse(%q): %q %q %d, want %q %q %d", p, c, n, e, col, name, fault)
	}
}

// parseShould asks that Parse answers what the patterns say.
func parseShould(t *testing.T, p string) {
	t.Helper()
	col, name, fault := parsed(p)
	parseIs(t, p, col, name, fault)
}

// everyByte calls f with each byte.
func everyByte(f func(b byte)) {
	for i := range 256 {
		f(byte(i))
	}
}

// shorts calls f with each text of at most n of the letters.
func shorts(letters string, n int, f func(string)) {
	f("")
	if n == 0 {
		return
	}
	for i := range len(letters) {
		shorts(letters, n-1, func(rest string) { f(letters[i:i+1] + rest) })
	}
}

// draws is a row of numbers, the same ones at each run, and what is made of them.
type draws struct{ trial.Draws }

// text is a text made of pieces that are near the edges.
func (d *draws) text() string {
	pieces := []string{"a", "Z", "0", "9", "-", ".", "_", "~", "%", "/", " ", "+", "\t", "\r", "\n", "é", "€", "\U0001F600",
		"\x00", "\x1f", "\x7f", "\xff", "\xc3", "\u0080", strings.Repeat("b", 30), strings.Repeat("ü", 15)}
	// Mostly from those that may stand, so that not nearly all are none.
	known := len(pieces)
	if d.Below(4) > 0 {
		known = 18
	}
	var s strings.Builder
	for range d.Below(8) {
		s.WriteString(pieces[d.Below(known)])
	}
	return s.String()
}

// edges are texts next to the bounds that the chapter names, on both sides.
func edges() []string {
	return []string{"", "a", "az", "AZ", "09", "-._~", ".", "..", "...", ".a", "a.", "-", "~", "%", "%2F", "/", "//", " ", "+", "a b", "x/y",
		"\t", "\n", "\r", "\x00", "\x08", "\x0b", "\x0c", "\x0e", "\x1f", "\x20", "\x7e", "\x7f", "\x80", "\xff", "a\x00",
		"é", "\u0080", "\u07ff", "\u0800", "\ud7ff", "\ue000", "\uffff", "\U00010000", "\U0010ffff",
		"\xc0\x80", "\xc1\xbf", "\xe0\x80\xaf", "\xed\xa0\x80", "\xed\xbf\xbf", "\xf0\x80\x80\xaf", "\xf4\x90\x80\x80", "\xc3", "\xe2\x82",
		strings.Repeat("a", 63), strings.Repeat("a", 64), strings.Repeat("a", 65), strings.Repeat("a", 1000),
		strings.Repeat(" ", 64), strings.Repeat(" ", 65), strings.Repeat(".", 64), strings.Repeat(".", 65),
		strings.Repeat("é", 32), strings.Repeat("é", 33), strings.Repeat("€", 21), strings.Repeat("€", 21) + "a", strings.Repeat("€", 21) + "aa",
		strings.Repeat("a", 63) + "é", strings.Repeat("a", 63) + "\xc3"}
}

// P6.1: a segment is the text as it is written, byte by byte.
func TestSegmentWritesEachByte(t *testing.T) {
	plain := "abcdefghijklmnopqrstuvwxyzABCDEFGHIJKLMNOPQRSTUVWXYZ0123456789-_~"
	for _, b := range plain {
		if s, e := Segment(string(b)); s != string(b) || e != api.OK {
			t.Errorf("Segment(%q): %q %d", string(b), s, e)
		}
	}
	want := map[string]string{"a b": "a%20b", "x/y": "x%2Fy", "%": "%25", "%41": "%2541", "a.b": "a.b", "...": "...", "*": "%2A",
		"é": "%C3%A9", "\U0001F600": "%F0%9F%98%80", "\t\r\n": "%09%0D%0A", "+@:;,=": "%2B%40%3A%3B%2C%3D", "\"<>": "%22%3C%3E"}
	for text, s := range want {
		if got, e := Segment(text); got != s || e != api.OK {
			t.Errorf("Segment(%q): %q %d, want %q", text, got, e, s)
		}
	}
	everyByte(func(b byte) {
		segmentIs(t, string([]byte{b}))
		everyByte(func(c byte) { segmentIs(t, string([]byte{b, c})) })
	})
}

// P6.1: no segment stands for a text that is empty, too long, not valid, or one or two dots.
func TestSegmentEdges(t *testing.T) {
	for _, text := range edges() {
		segmentIs(t, text)
	}
	none := []string{"", ".", "..", strings.Repeat("a", 65), strings.Repeat("é", 33), "\x00", "a\x7f", "\xff", "\xc0\x80", "\xed\xa0\x80"}
	for _, text := range none {
		if s, e := Segment(text); s != "" || e != api.ErrPath {
			t.Errorf("Segment(%q): %q %d, want the empty text and ErrPath", text, s, e)
		}
	}
	// The bound is that of the text, not that of what is written.
	if s, e := Segment(strings.Repeat(" ", 64)); s != strings.Repeat("%20", 64) || e != api.OK {
		t.Errorf("Segment of 64 spaces: %q %d", s, e)
	}
}

// P6.1: the root's path is /.
func TestRoot(t *testing.T) {
	if Root() != "/" {
		t.Errorf("Root: %q", Root())
	}
}

// P6.1: the path of the card, of the collection, of the root; ErrPath for the collection that is missing alone.
func TestOf(t *testing.T) {
	cases := []struct {
		col, name, want string
		fault           api.Errno
	}{
		{"a b", "x/y", "/a%20b/x%2Fy", api.OK},
		{"a", "x", "/a/x", api.OK},
		{"a", "", "/a/", api.OK},
		{"", "", "/", api.OK},
		{"", "x", "", api.ErrPath},
		{"", ".", "", api.ErrPath},
		{".", "", "", api.ErrPath},
		{"..", "x", "", api.ErrPath},
		{"a", ".", "", api.ErrPath},
		{"a", "..", "", api.ErrPath},
		{"a", "\xff", "", api.ErrPath},
		{"\xff", "a", "", api.ErrPath},
		{"/", "/", "/%2F/%2F", api.OK},
	}
	for _, c := range cases {
		if got, e := Of(c.col, c.name); got != c.want || e != c.fault {
			t.Errorf("Of(%q, %q): %q %d, want %q %d", c.col, c.name, got, e, c.want, c.fault)
		}
	}
}

// P6.1, P6.3: Of answers what it should for each pair of edges, and what it makes is parsed again.
func TestOfIsParsedAgain(t *testing.T) {
	for _, col := range edges() {
		for _, name := range edges() {
			ofIs(t, col, name)
		}
	}
	everyByte(func(b byte) {
		everyByte(func(c byte) {
			ofIs(t, string([]byte{b}), string([]byte{c}))
			ofIs(t, string([]byte{b, c}), "")
			ofIs(t, "a", string([]byte{b, c}))
		})
	})
	d := draws{6}
	for range 50000 {
		ofIs(t, d.text(), d.text())
	}
}

// P6.2: the examples, and what is no path.
func TestParse(t *testing.T) {
	parseIs(t, "/", "", "", api.OK)
	parseIs(t, "/a/", "a", "", api.OK)
	parseIs(t, "/a/b", "a", "b", api.OK)
	parseIs(t, "/a%20b/x%2Fy", "a b", "x/y", api.OK)
	parseIs(t, "/.../-._~", "...", "-._~", api.OK)
	for _, p := range []string{"", "a", "a/", "a/b", "//", "///", "/a", "/a//", "/a/b/", "/a/b/c", "//a", "//a/", " /a/", "/a/ ", "/a/b?c", "/a/#",
		"/%2/", "/%/", "/a/%", "/a/%2", "/a/%2g", "/a/%g2", "/a/%%41", "/../", "/./", "/a/.", "/a/..", "/%2E/", "/%2e%2e/", "/a/%2E", "/a/.%2e",
		"/a b/", "/a+b/", "/é/", "/a/é", "/\xff/", "/\x00/", "/%00/", "/a/%1F", "/a/%7F", "/%FF/", "/%C3/", "/a/%C0%80", "/a/%ED%A0%80", "http://h/a/"} {
		parseIs(t, p, "", "", api.ErrPath)
	}
}

// P6.2: small digits are read too, and an escape may stand for any byte, also one that needs none.
func TestParseReadsEscapes(t *testing.T) {
	parseIs(t, "/%61/%7a%7A", "a", "zz", api.OK)
	parseIs(t, "/%c3%a9/%C3%a9", "é", "é", api.OK)
	parseIs(t, "/%2f/%2F", "/", "/", api.OK)
	parseIs(t, "/%25/%2525", "%", "%25", api.OK)
	parseIs(t, "/%09%0a%0D/", "\t\n\r", "", api.OK)
	parseIs(t, "/%2e%2E./", "...", "", api.OK)
	everyByte(func(b byte) {
		everyByte(func(c byte) {
			pair := string([]byte{b, c})
			parseShould(t, "/%"+pair+"/")
			parseShould(t, "/a/%"+pair)
			parseShould(t, "/"+pair+"/")
			parseShould(t, "/a/"+pair)
			parseShould(t, pair)
		})
	})
}

// P6.2: all short texts of the bytes that matter are read as the patterns say.
func TestParseShort(t *testing.T) {
	shorts("/a.%2eG", 6, func(s string) {
		parseShould(t, s)
		parseShould(t, "/"+s)
	})
	shorts("/.a", 8, func(s string) { parseShould(t, "/"+s) })
}

// P6.2: the bound is that of a segment's text, however it is written.
func TestParseBound(t *testing.T) {
	for _, letter := range []string{"a", "%61", "%20", "%C3%A9"} {
		size := len(letter)
		if strings.HasPrefix(letter, "%") {
			size /= 3
		}
		for n := 62; n <= 66; n++ {
			s := strings.Repeat(letter, n/size)
			parseShould(t, "/"+s+"/")
			parseShould(t, "/a/"+s)
			parseShould(t, "/"+s+"/"+s)
		}
	}
	parseIs(t, "/a/"+strings.Repeat("%61", 64), "a", strings.Repeat("a", 64), api.OK)
	parseIs(t, "/a/"+strings.Repeat("%61", 65), "", "", api.ErrPath)
	parseIs(t, "/"+strings.Repeat("a", 65)+"/", "", "", api.ErrPath)
	parseIs(t, "/"+strings.Repeat("a", 1<<20)+"/", "", "", api.ErrPath)
	parseIs(t, strings.Repeat("/", 1<<20), "", "", api.ErrPath)
}

// P6.2: texts of drawn pieces are read as the patterns say.
func TestParseDrawn(t *testing.T) {
	pieces := []string{"/", "/", "a", "B", "7", ".", "..", "~", "%20", "%2f", "%C3%A9", "%e2%82%ac", "%00", "%", "%4", " ", "é", "%2E", strings.Repeat("c", 31)}
	d := draws{62}
	for range 200000 {
		p := "/"
		for range d.Below(9) {
			p += pieces[d.Below(len(pieces))]
		}
		parseShould(t, p)
	}
}
