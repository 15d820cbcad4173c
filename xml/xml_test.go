package xml

import (
	stock "encoding/xml"
	"errors"
	"io"
	"maps"
	"math/big"
	"reflect"
	"regexp"
	"slices"
	"strconv"
	"strings"
	"testing"
	"unicode/utf8"

	"calepin/api"
	"calepin/trial"
)

// The chapter's form as patterns: an oracle of another make than the package's.
const (
	blankForm       = `[ \t\n\r]`
	nameForm        = `[A-Za-z_][A-Za-z0-9._-]{0,63}`
	fullForm        = `(?:` + nameForm + `:)?` + nameForm
	declarationForm = blankForm + `+xmlns(?::(` + nameForm + `))?=(?:"([^<"]*)"|'([^<']*)')`
)

var (
	prolog       = regexp.MustCompile(`^<\?xml(?s:.*?)\?>`)
	remark       = regexp.MustCompile(`^<!--(?:-?[^-])*-?-->`)
	beginning    = regexp.MustCompile(`^<(` + fullForm + `)((?:` + declarationForm + `)*)` + blankForm + `*(/?)>`)
	declarations = regexp.MustCompile(declarationForm)
	ending       = regexp.MustCompile(`^</(` + fullForm + `)` + blankForm + `*>`)
	character    = regexp.MustCompile(`^(?:[^<&]|&(?:amp|lt|gt|quot|apos|#(?:0|[1-9][0-9]*)|#x[0-9A-Fa-f]+);)`)
	blankText    = regexp.MustCompile(`^` + blankForm + `*$`)
	control      = regexp.MustCompile(`[\x00-\x08\x0B\x0C\x0E-\x1F\x7F]`)
	named        = regexp.MustCompile(`^` + nameForm + `$`)
)

// within is an element that isn't ended yet.
type within struct {
	full   string
	piece  api.Piece
	spaces map[string]api.Space
}

// oracle reads a document token by token.
type oracle struct {
	open   []within
	roots  int
	text   string
	pieces []api.Piece
}

// wanted is what Parse should answer.
func wanted(s string) ([]api.Piece, api.Errno) {
	switch {
	case len(s) > 65536:
		return nil, api.ErrLong
	case !utf8.ValidString(s), control.MatchString(s):
		return nil, api.ErrText
	}
	o := &oracle{}
	for s = s[len(prolog.FindString(s)):]; s != ""; {
		n := o.token(s)
		if n == 0 {
			return nil, api.ErrXML
		}
		s = s[n:]
	}
	if len(o.open) > 0 || o.roots != 1 {
		return nil, api.ErrXML
	}
	return o.pieces, api.OK
}

// token takes the first token of s, and tells how long it is: 0 if there is none that may stand there.
func (o *oracle) token(s string) int {
	if m := remark.FindString(s); m != "" {
		return len(m)
	}
	if m := beginning.FindStringSubmatch(s); m != nil {
		if !o.begin(m[1], m[2], m[6] == "/") {
			return 0
		}
		return len(m[0])
	}
	if m := ending.FindStringSubmatch(s); m != nil {
		if len(o.open) == 0 || o.open[len(o.open)-1].full != m[1] {
			return 0
		}
		o.end()
		return len(m[0])
	}
	m := character.FindString(s)
	c, ok := decoded(m)
	if !ok || len(o.open) == 0 && !blankText.MatchString(m) {
		return 0
	}
	o.text += c
	return len(m)
}

// meaning is the space that a declaration's value names.
func meaning(value string) api.Space {
	known := map[string]api.Space{"": api.NoSpace, "DAV:": api.DavSpace, "urn:ietf:params:xml:ns:carddav": api.CardSpace}
	if space, ok := known[value]; ok {
		return space
	}
	return api.Foreign
}

// begin is an element's beginning, false if it has a fault.
func (o *oracle) begin(full, declared string, empty bool) bool {
	spaces := map[string]api.Space{"": api.NoSpace}
	if n := len(o.open); n > 0 {
		spaces = maps.Clone(o.open[n-1].spaces)
	} else {
		o.roots++
	}
	own := map[string]bool{}
	for _, d := range declarations.FindAllStringSubmatch(declared, -1) {
		if own[d[1]] {
			return false
		}
		own[d[1]] = true
		spaces[d[1]] = meaning(d[2] + d[3])
	}
	prefix, local, parted := strings.Cut(full, ":")
	if !parted {
		prefix, local = "", full
	}
	space, ok := spaces[prefix]
	if !ok || len(o.open) == 16 {
		return false
	}
	o.piece(api.Piece{Kind: api.Open, Space: space, Name: local})
	o.open = append(o.open, within{full, o.pieces[len(o.pieces)-1], spaces})
	if empty {
		o.end()
	}
	return true
}

// end is the end of the last element that is open.
func (o *oracle) end() {
	last := len(o.open) - 1
	p := o.open[last].piece
	p.Kind = api.Close
	o.piece(p)
	o.open = o.open[:last]
}

// piece is the next piece, behind the characters ahead of it.
func (o *oracle) piece(p api.Piece) {
	if !blankText.MatchString(o.text) {
		o.pieces = append(o.pieces, api.Piece{Kind: api.Chars, Text: o.text})
	}
	o.text = ""
	o.pieces = append(o.pieces, p)
}

// decoded is the character that a token stands for.
func decoded(token string) (string, bool) {
	if !strings.HasPrefix(token, "&") {
		return token, token != ""
	}
	if c, ok := map[string]string{"&amp;": "&", "&lt;": "<", "&gt;": ">", "&quot;": `"`, "&apos;": "'"}[token]; ok {
		return c, true
	}
	base := 10
	digits := strings.TrimSuffix(strings.TrimPrefix(token, "&#"), ";")
	if digits[0] == 'x' {
		base, digits = 16, digits[1:]
	}
	n, _ := new(big.Int).SetString(digits, base)
	if n.Cmp(big.NewInt(0x10FFFF)) > 0 || !utf8.ValidRune(rune(n.Int64())) {
		return "", false
	}
	c := string(rune(n.Int64()))
	return c, !control.MatchString(c)
}

// anyText is a document whose pieces ps would be, if they are some: what Check asks for.
func anyText(ps []api.Piece) string {
	urls := map[api.Space]string{api.DavSpace: "DAV:", api.CardSpace: "urn:ietf:params:xml:ns:carddav", api.Foreign: "DAV"}
	s := "<?xml version='1.0'?>\n"
	for _, p := range ps {
		switch p.Kind {
		case api.Open:
			s += "<" + p.Name + " xmlns='" + urls[p.Space] + "' >"
		case api.Close:
			s += "</" + p.Name + "\t>"
		case api.Chars:
			for _, c := range p.Text {
				s += "&#x" + strconv.FormatInt(int64(c), 16) + ";"
			}
		}
	}
	return s
}

// checked is what Check should answer.
func checked(ps []api.Piece) api.Errno {
	got, e := wanted(anyText(ps))
	if e != api.OK || !slices.Equal(got, ps) {
		return api.ErrXML
	}
	if slices.ContainsFunc(ps, func(p api.Piece) bool { return p.Space == api.Foreign || !utf8.ValidString(p.Text) }) {
		return api.ErrXML
	}
	return api.OK
}

// printed is the text of pieces that are right, made by replacing.
func printed(ps []api.Piece) string {
	var s strings.Builder
	for _, p := range ps {
		full := map[api.Space]string{api.DavSpace: "D:", api.CardSpace: "C:"}[p.Space] + p.Name
		switch p.Kind {
		case api.Open:
			s.WriteString("<" + full + ">")
		case api.Close:
			s.WriteString("</" + full + ">")
		case api.Chars:
			t := strings.ReplaceAll(p.Text, "&", "&amp;")
			t = strings.ReplaceAll(strings.ReplaceAll(t, "<", "&lt;"), ">", "&gt;")
			s.WriteString(strings.ReplaceAll(t, "\r", "&#13;"))
		}
	}
	short := regexp.MustCompile(`<([^<>/]*)></[^<>]*>`).ReplaceAllString(s.String(), "<$1/>")
	return regexp.MustCompile(`^<([^</>]*)`).ReplaceAllString(short, `<$1 xmlns:D="DAV:" xmlns:C="urn:ietf:params:xml:ns:carddav"`)
}

// parseIs asks that Parse answers just these pieces.
func parseIs(t *testing.T, s string, want ...api.Piece) {
	t.Helper()
	if got, e := Parse(s); e != api.OK || !slices.Equal(got, want) {
		t.Errorf("Parse(%q): %v %d, want %v", s, got, e, want)
	}
}

// parseFails asks that Parse answers this error and no pieces.
func parseFails(t *testing.T, fault api.Errno, texts ...string) {
	t.Helper()
	for _, s := range texts {
		if got, e := Parse(s); e != fault || len(got) != 0 {
			t.Errorf("Parse(%q): %v %d, want %d", s, got, e, fault)
		}
	}
}

// parseShould asks that Parse answers what the oracle says, and that what it answers without foreign names is printed and parsed again.
func parseShould(t *testing.T, s string) {
	t.Helper()
	want, fault := wanted(s)
	got, e := Parse(s)
	if e != fault || !slices.Equal(got, want) {
		t.Fatalf("Parse(%q): %v %d, want %v %d", s, got, e, want, fault)
	}
	if e == api.OK && !slices.ContainsFunc(got, func(p api.Piece) bool { return p.Space == api.Foreign }) {
		if e := Check(got); e != api.OK {
			t.Fatalf("Check of what was parsed, %v: %d", got, e)
		}
	}
}

// piecesShould asks that Check and Print answer what the oracle says.
func piecesShould(t *testing.T, ps []api.Piece) {
	t.Helper()
	want, fault := "", checked(ps)
	if fault == api.OK {
		want = printed(ps)
	}
	if e := Check(ps); e != fault {
		t.Fatalf("Check(%v): %d, want %d", ps, e, fault)
	}
	got, e := Print(ps)
	if got != want || e != fault {
		t.Fatalf("Print(%v): %q %d, want %q %d", ps, got, e, want, fault)
	}
	if e == api.OK {
		parseIs(t, got, ps...)
	}
}

// Short forms of pieces.
func open(space api.Space, name string) api.Piece {
	return api.Piece{Kind: api.Open, Space: space, Name: name}
}

func end(space api.Space, name string) api.Piece {
	return api.Piece{Kind: api.Close, Space: space, Name: name}
}

func chars(text string) api.Piece {
	return api.Piece{Kind: api.Chars, Text: text}
}

// both is an element without content.
func both(space api.Space, name string) []api.Piece {
	return []api.Piece{open(space, name), end(space, name)}
}

// about is an element of no space around the others.
func about(name string, inner ...api.Piece) []api.Piece {
	return append(append([]api.Piece{open(api.NoSpace, name)}, inner...), end(api.NoSpace, name))
}

// nest is so many elements, each within the one ahead of it, around a text.
func nest(n int, inner string) string {
	return strings.Repeat("<a>", n) + inner + strings.Repeat("</a>", n)
}

// draws is a row of numbers, the same ones at each run, and what is made of them.
type draws struct{ trial.Draws }

// element is the text of an element, most often one without a fault.
func (d *draws) element(depth int) string {
	name := d.Of("a", "b", "p:a", "q:b", "_", "a.-9", "D:href")
	s := "<" + name
	for range d.Below(3) {
		s += d.Of(" ", "\n", "\t ", "\r\n") + "xmlns" + d.Of("", ":p", ":q", ":D", ":C")
		s += "=" + d.Of(`"DAV:"`, `'DAV:'`, `"urn:ietf:params:xml:ns:carddav"`, `""`, `"&amp;'"`, `'">'`, `'u'`)
	}
	if !strings.Contains(s, "xmlns:") && strings.Contains(name, ":") {
		s += ` xmlns:` + name[:1] + `="DAV:"`
	}
	s += d.Of("", "", " ", "\n\t")
	if d.Below(3) == 0 || depth == 0 {
		return s + "/>"
	}
	s += ">"
	for range d.Below(5) {
		if d.Below(2) == 0 {
			s += d.element(depth - 1)
			continue
		}
		s += d.Of("x", " ", "\r\n", "é", "]]>", `"'`, "&amp;", "&lt;", "&gt;", "&quot;", "&apos;", "&#13;", "&#32;", "&#233;", "&#x1F600;", "&#xe9;", "<!--x-->", "<!-- - -->", "<!---->")
	}
	return s + "</" + name + d.Of("", "", " ") + ">"
}

// document is the text of a document, most often one without a fault.
func (d *draws) document() string {
	return d.Of("", "<?xml?>", "<?xml version='1.0'?>") + d.Of("", " ", "\n<!--x-->", "<!----> ") + d.element(4) + d.Of("", "", "\r\n", "<!--y-->")
}

// spoilt is s with some bytes taken out, put in or doubled.
func (d *draws) spoilt(s string) string {
	for range 1 + d.Below(2) {
		i := d.Below(len(s) + 1)
		j := min(len(s), i+d.Below(3))
		s = s[:i] + d.Of("", "", "<", ">", "/", "&", ";", ":", "=", `"`, "'", " ", "-", "--", "<!--", "-->", "a", "x", "0", "#", "xmlns", "<a/>", "é", "\x00", "\xff", s[i:j]+s[i:j]) + s[j:]
	}
	return s
}

// P7.1: the examples of the chapter.
func TestExamples(t *testing.T) {
	ps := []api.Piece{open(api.DavSpace, "a"), open(api.DavSpace, "b"), end(api.DavSpace, "b"), chars("x&"), end(api.DavSpace, "a")}
	parseIs(t, `<a xmlns="DAV:"> <b/>x&amp;</a>`, ps...)
	want := `<D:a xmlns:D="DAV:" xmlns:C="urn:ietf:params:xml:ns:carddav"><D:b/>x&amp;</D:a>`
	if s, e := Print(ps); s != want || e != api.OK {
		t.Errorf("Print: %q %d", s, e)
	}
	parseFails(t, api.ErrXML, "<a></b>", "<p:a/>", "<a>&x;</a>", "<a/><b/>")
}

// P7.1: what may stand around the one element.
func TestParseAround(t *testing.T) {
	a := both(api.NoSpace, "a")
	for _, s := range []string{"<a/>", "<a></a>", "<a />", "<a\t\r\n></a \n>", "<?xml?><a/>", "<?xml version='1.0' encoding='utf-8'?>\n<a/>\n", "<?xml<?xml a=b>?\n?><a/>",
		" \t\r\n<a/> \t\r\n", "<!--x--><a/><!--y-->", "<?xml?> <!----> <!-- <b/> & --> <a/>\n<!-- > -> - -->\n", "<!--é-->\n<a/>", "<?xmlx?><a/>", "<!---><a/>--><a/>", "<!--->--><a/>"} {
		parseIs(t, s, a...)
	}
	parseFails(t, api.ErrXML, "", " ", "x", "<", "<a", "<a>", "<a/", "<a/ >", "< a/>", "</a>", "<a></a", "<a></ a>", "<a><a/>", "<a/></a>", "<a/><a/>", "<a/>x", "x<a/>",
		"<a/>&#32;", "&amp;<a/>", "<!-- --> ", "<?xml?>", "<?xml", "<?xml?", "<?xml ><a/>", " <?xml?><a/>", "<?xml?><?xml?><a/>", "<a/><?xml?>", "<a><?xml?></a>", "<?XML?><a/>", "<?x?><a/>",
		"<!-- <a/>", "<!-- -- --><a/>", "<!-- --", "<!-->", "<!--->", "<!-- -> <a/>", "<!- x --><a/>", "<a <!-- --> />", "<a><!-- --</a>", "<!DOCTYPE a><a/>", "\ufeff<a/>",
		"<a><![CDATA[x]]></a>", "<A/><a/>", "<a></A>", "\u00a0<a/>", "<a/\n>", "<a/>\u0085")
}

// P7.1: a remark has no two hyphens side by side, but those of its end.
func TestParseRemarks(t *testing.T) {
	for _, inner := range []string{"", "-", "x", "x-", "-x", "- -", ">", "->", "-->", "x->", "--", "---", "x--", "--x", "- --", "<a>", "<!--", "<!-", "é", "\n", "&", "&x;"} {
		parseShould(t, "<!--"+inner+"--><a/>")
		parseShould(t, "<a><!--"+inner+"--></a>")
		parseShould(t, "<a/><!--"+inner+"-->")
		parseShould(t, "<a/><!--"+inner)
	}
	// The hyphens ahead of the end's are one at most: it stands alone.
	parseIs(t, "<!--x---><a/>", both(api.NoSpace, "a")...)
	parseFails(t, api.ErrXML, "<!--x----><a/>", "<!--x--y--><a/>")
}

// P7.1: names, by their bytes and their length.
func TestParseNames(t *testing.T) {
	for b := range 256 {
		c := string([]byte{byte(b)})
		for _, s := range []string{"<" + c + "/>", "<a" + c + "/>", "<a" + c + "></a" + c + ">", "<p:" + c + " xmlns:p=''/>", "<" + c + ":a xmlns:" + c + "='DAV:'/>", "<a xmlns:" + c + "=''/>", "<a xmlns:a" + c + "=''/>", "<a></a" + c + ">", "<a" + c + "></a>"} {
			parseShould(t, s)
		}
	}
	for _, n := range []int{1, 2, 63, 64, 65, 66, 1000} {
		name := strings.Repeat("n", n)
		for _, s := range []string{"<" + name + "/>", "<" + name + "></" + name + ">", "<p:" + name + " xmlns:p='DAV:'/>", "<" + name + ":a xmlns:" + name + "='DAV:'/>", "<a xmlns:" + name + "=''/>"} {
			want := api.OK
			if n > 64 {
				want = api.ErrXML
			}
			if _, e := Parse(s); e != want {
				t.Errorf("a name of %d bytes: %d", n, e)
			}
			parseShould(t, s)
		}
	}
	parseIs(t, "<_-.9Z/>", both(api.NoSpace, "_-.9Z")...)
	parseIs(t, "<xmlns/>", both(api.NoSpace, "xmlns")...)
	parseFails(t, api.ErrXML, "<-/>", "<.a/>", "<9/>", "<é/>", "<aé/>", "<:a/>", "<a:/>", "<a: xmlns:a=''/>", "<p:q:a xmlns:p=''/>", "<xml:a/>", "<xmlns:a/>", "<a :b/>")
}

// P7.1: the same written name ends an element, whatever its space.
func TestParseEnds(t *testing.T) {
	parseIs(t, "<p:a xmlns:p='DAV:'></p:a>", both(api.DavSpace, "a")...)
	parseFails(t, api.ErrXML, "<p:a xmlns:p='DAV:'></a>", "<a xmlns='DAV:' xmlns:p='DAV:'></p:a>", "<p:a xmlns:p='' xmlns:q=''></q:a>", "<a></a xmlns=''>", "<a></aa>", "<aa></a>",
		"<a><b></a></b>", "<a><b></b></b>", "<a></a/>", "<a></>", "<a><b/></a></a>")
}

// P7.1: a name's space is the one to which its prefix was declared last, by its element or one around it.
func TestParseSpaces(t *testing.T) {
	cases := []struct {
		s     string
		space api.Space
	}{
		{"<a/>", api.NoSpace},
		{"<a xmlns=''/>", api.NoSpace},
		{"<a xmlns='DAV:'/>", api.DavSpace},
		{`<a xmlns="DAV:"/>`, api.DavSpace},
		{"<a xmlns='urn:ietf:params:xml:ns:carddav'/>", api.CardSpace},
		{"<a xmlns='urn:ietf:params:xml:ns:carddav '/>", api.Foreign},
		{"<a xmlns='DAV'/>", api.Foreign},
		{"<a xmlns='dav:'/>", api.Foreign},
		{"<a xmlns=' '/>", api.Foreign},
		{"<a xmlns='DAV&#58;'/>", api.Foreign},
		{"<a xmlns='&x>\n'/>", api.Foreign},
		{"<p:a xmlns:p='DAV:'/>", api.DavSpace},
		{"<p:a xmlns:p=''/>", api.NoSpace},
		{"<p:a xmlns='DAV:' xmlns:p='u'/>", api.Foreign},
		{"<p:a xmlns:p='DAV:' xmlns='u'/>", api.DavSpace},
		{"<a xmlns:p='DAV:'/>", api.NoSpace},
		{"<a xmlns:a='DAV:'/>", api.NoSpace},
		{"<xmlns:a xmlns:xmlns='DAV:'/>", api.DavSpace},
		{"<p:a xmlns:P='DAV:' xmlns:p='u'/>", api.Foreign},
		{"<p:p xmlns:p='\"'/>", api.Foreign},
		{"<p:p xmlns:p=\"'\"/>", api.Foreign},
	}
	for _, c := range cases {
		if ps, e := Parse(c.s); e != api.OK || len(ps) != 2 || ps[0].Space != c.space || ps[1].Space != c.space {
			t.Errorf("Parse(%q): %v %d, want space %d", c.s, ps, e, c.space)
		}
		parseShould(t, c.s)
	}
	parseFails(t, api.ErrXML, "<p:a xmlns:q='DAV:'/>", "<a><p:b/></a>", "<a><b xmlns:p=''/><p:b/></a>", "<p:a><b xmlns:p=''/></p:a>", "<P:a xmlns:p=''/>")
	parseIs(t, "<a xmlns='DAV:'><b xmlns=''><c/></b><d/></a>", open(api.DavSpace, "a"), open(api.NoSpace, "b"), open(api.NoSpace, "c"), end(api.NoSpace, "c"),
		end(api.NoSpace, "b"), open(api.DavSpace, "d"), end(api.DavSpace, "d"), end(api.DavSpace, "a"))
	parseIs(t, "<p:a xmlns:p='u'><p:b xmlns:p='DAV:'/><p:c/></p:a>", open(api.Foreign, "a"), open(api.DavSpace, "b"), end(api.DavSpace, "b"),
		open(api.Foreign, "c"), end(api.Foreign, "c"), end(api.Foreign, "a"))
}

// P7.1: the form of declarations, and that none stands twice in one element.
func TestParseDeclarations(t *testing.T) {
	for _, s := range []string{"<a xmlns='' xmlns:a=''/>", "<a\txmlns=''\n\rxmlns:a='' ></a>", "<a xmlns='><&'/>", "<a xmlns:a='u' xmlns:A='u'/>"} {
		parseShould(t, s)
	}
	parseFails(t, api.ErrXML, "<a xmlns='' xmlns=''/>", "<a xmlns:p='' xmlns:p='DAV:'/>", "<a xmlns='u' xmlns:p='v' xmlns='u'/>", "<a xmlns:p='' xmlns:q='' xmlns:p=''/>",
		"<axmlns=''/>", "<a xmlns=''xmlns:p=''/>", "<a xmlns =''/>", "<a xmlns= ''/>", "<a xmlns:='u'/>", "<a xmlns: p='u'/>", "<a xmlns/>", "<a xmlns=/>", "<a xmlns=u/>",
		"<a xmlns='/>", "<a xmlns='\"/>", "<a xmlns=\"'/>", "<a xmlns='<'/>", "<a b='c'/>", "<a xml:lang='en'/>", "<a XMLNS=''/>", "<a xmlnsx=''/>", "<a xmlns:p:q=''/>", "<a xmlns='' b/>",
		"<a/ xmlns=''>", "<a></a xmlns=''>", "<a xmlns=''", "<a xmlns", "<a xmlns:", "<a xmlns:p", "<a ")
	parseIs(t, "<a xmlns:p=''><b xmlns:p=''/></a>", about("a", both(api.NoSpace, "b")...)...)
}

// P7.1: characters stand for themselves, or are told by a reference.
func TestParseCharacters(t *testing.T) {
	for inner, text := range map[string]string{"x": "x", " x ": " x ", "&amp;&lt;&gt;&quot;&apos;": `&<>"'`, "&#65;&#x41;&#x00000000000000000000041;": "AAA", ">]]>": ">]]>", `"'`: `"'`,
		"\r\nx\r": "\r\nx\r", "&#13;x": "\rx", "&amp;amp;": "&amp;", "&#38;lt;": "&lt;", "é€\U0001F600": "é€\U0001F600", "&#233;&#xE9;&#xe9;": "ééé", "&#1114111;": "\U0010FFFF", "&#x10fFfF;": "\U0010FFFF",
		"&#9;&#10;&#x20;.": "\t\n .", "&#128;": "\u0080", "&#xD7FF;&#xE000;&#xFFFE;": "\ud7ff\ue000\ufffe", "&#65533;": "\ufffd", "\u00a0": "\u00a0", "a;b#": "a;b#", "x&#32;": "x "} {
		parseIs(t, "<a>"+inner+"</a>", about("a", chars(text))...)
		parseShould(t, "<a>"+inner+"</a>")
	}
	for _, inner := range []string{"&", "&;", "&x;", "&amp", "&amp ;", "& amp;", "&AMP;", "&nbsp;", "&#;", "&#x;", "&#X41;", "&#a;", "&#xg;", "&#-1;", "&#+1;", "&#x+1;", "&#x-1;", "&#x4_1;", "&#x 41;", "&# 65;", "&#65", "&#6 5;",
		"&#065;", "&#00;", "&#0;", "&#x0;", "&#8;", "&#11;", "&#12;", "&#14;", "&#31;", "&#127;", "&#x7f;", "&#xD800;", "&#55296;", "&#xDFFF;", "&#57343;", "&#1114112;", "&#x110000;",
		"&#4294967361;", "&#x100000041;", "&#18446744073709551681;", "&#x10000000000000041;", "&#x;41;", "&x41;", "&65;", "&##65;", "&lt", "<", "<<b/>", "a<b", "&amp&amp;", "&<b/>;", "<b/>&"} {
		parseFails(t, api.ErrXML, "<a>"+inner+"</a>")
		parseShould(t, "<a>"+inner+"</a>")
	}
}

// P7.1: every code point that is told by a number is read, if it may stand in a valid text.
func TestParseReferences(t *testing.T) {
	for n := range 0x110100 {
		if n > 0x900 && n < 0xd700 || n > 0xe100 && n < 0xff00 || n > 0x10100 && n < 0x10ff00 {
			continue
		}
		parseShould(t, "<a>x&#"+strconv.Itoa(n)+";</a>")
		parseShould(t, "<a>x&#x"+strconv.FormatInt(int64(n), 16)+";</a>")
	}
}

// P7.1: characters between two ends are one text, remarks parting nothing; blanks alone are none.
func TestParseTexts(t *testing.T) {
	b := both(api.NoSpace, "b")
	parseIs(t, "<a>x<!--y-->z</a>", about("a", chars("xz"))...)
	parseIs(t, "<a> <!--y--> <!----> </a>", both(api.NoSpace, "a")...)
	parseIs(t, "<a> <!--y-->x <!---->\n</a>", about("a", chars(" x \n"))...)
	parseIs(t, "<a>&#32;&#x9;&#10;&#13;</a>", both(api.NoSpace, "a")...)
	parseIs(t, "<a>x<b/>y</a>", about("a", chars("x"), b[0], b[1], chars("y"))...)
	parseIs(t, "<a>\n<b/>\ty<b> </b> \r\n</a>", about("a", b[0], b[1], chars("\ty"), b[0], b[1])...)
	parseIs(t, "<a><b>x</b></a>", about("a", about("b", chars("x"))...)...)
	parseIs(t, "<a><!--y--></a>", both(api.NoSpace, "a")...)
	parseIs(t, "<a>\u00a0<b/>\u2003</a>", about("a", chars("\u00a0"), b[0], b[1], chars("\u2003"))...)
}

// P7.1: no element lies in more than fifteen others.
func TestParseDepth(t *testing.T) {
	for n := 1; n <= 40; n++ {
		want := api.OK
		if n > 16 {
			want = api.ErrXML
		}
		inner := nest(n, "")
		for _, s := range []string{inner, nest(n, "x"), nest(n-1, "<a/>"), nest(n-1, "<b/>x<a/><a/><b></b>"), "<!---->" + nest(n-1, "<a/><!--<a>-->")} {
			if n == 1 && s != inner {
				continue
			}
			if _, e := Parse(s); e != want {
				t.Errorf("%d elements in one another: %d", n, e)
			}
			parseShould(t, s)
		}
	}
	parseShould(t, nest(1, nest(15, "")+nest(15, "")+nest(15, "x")))
	parseFails(t, api.ErrXML, strings.Repeat("<a>", 20000), nest(9000, ""))
}

// P7.1: the bound on a document's bytes, and the order of the errors.
func TestParseErrors(t *testing.T) {
	full := "<a>" + strings.Repeat("x", 65536-7) + "</a>"
	parseIs(t, full, about("a", chars(full[3:len(full)-4]))...)
	parseIs(t, "<a/>"+strings.Repeat(" ", 65532), both(api.NoSpace, "a")...)
	parseFails(t, api.ErrLong, full+" ", strings.Repeat(" ", 65537), strings.Repeat("\x00", 65537), strings.Repeat("\xff", 1<<20), "<a/>"+strings.Repeat(" ", 65533))
	parseFails(t, api.ErrText, "\x00", "\xff", "<a>\x00</a>", "<a>\x7f</a>", "<a/>\x1f", "<a\x00", "<!--\x08--><a/>"+"\x0b", "<\xc3", "<a>\xed\xa0\x80</a>", "<\xff"+strings.Repeat("x", 65534), "<?xml \x01?><a/>", "<a xmlns='\x02'/>")
	parseFails(t, api.ErrXML, strings.Repeat("<", 65536), strings.Repeat("&", 65536), strings.Repeat("<a/>", 16384), "<a>"+strings.Repeat("&", 65533), strings.Repeat("<!--", 16384),
		"<a"+strings.Repeat(" xmlns", 10000), "<a xmlns='"+strings.Repeat("x", 60000), "<a>&#x"+strings.Repeat("0", 60000), "<a>&#x"+strings.Repeat("f", 60000)+";</a>")
}

// P7.1: many declarations, many elements, many remarks are read too.
func TestParseMany(t *testing.T) {
	s := "<a"
	for i := range 2000 {
		s += " xmlns:p" + strconv.Itoa(i) + "='u'"
	}
	s += ">" + strings.Repeat("<p7:b xmlns='DAV:'/><!-- -->", 800) + "</a>"
	parseShould(t, s)
	parseShould(t, "<a>"+strings.Repeat("<b/>", 16000)+"</a>")
	parseShould(t, "<a>"+strings.Repeat("x<!---->", 4000)+"</a>")
}

// P7.1: all short rows of tokens are read as the patterns say.
func TestParseShort(t *testing.T) {
	shorts := func(n int, tokens ...string) {
		var all func(s string, n int)
		all = func(s string, n int) {
			parseShould(t, s)
			if n == 0 {
				return
			}
			for _, token := range tokens {
				all(s+token, n-1)
			}
		}
		all("", n)
	}
	shorts(5, "<a>", "</a>", "<p:a xmlns:p='DAV:'>", "</p:a>", "<a/>", "<!--", "-->", "x", " ")
	shorts(6, "<a", " xmlns", ":p", "='u'", "/>", " ", "")
	shorts(6, "<", "a", ">", "/", ":", "-")
	shorts(4, "<?xml", "?>", "<a/>", "<!--", "-->", "-", " ", "?", ">")
}

// P7.1, P7.3: drawn documents, as they are and spoilt.
func TestParseDrawn(t *testing.T) {
	d := draws{7}
	good := 0
	for range 40000 {
		s := d.document()
		if _, e := wanted(s); e == api.OK {
			good++
		}
		parseShould(t, s)
		parseShould(t, d.spoilt(s))
	}
	if good < 10000 {
		t.Errorf("only %d of the documents are some", good)
	}
}

// told is what the library's own decoder finds in a document, as pieces.
func told(s string) ([]api.Piece, error) {
	o := &oracle{}
	of := func(n stock.Name, kind api.PieceKind) api.Piece {
		return api.Piece{Kind: kind, Space: meaning(n.Space), Name: n.Local}
	}
	d := stock.NewDecoder(strings.NewReader(s))
	for {
		token, err := d.Token()
		if errors.Is(err, io.EOF) {
			return o.pieces, nil
		}
		if err != nil {
			return nil, err
		}
		switch x := token.(type) {
		case stock.StartElement:
			o.piece(of(x.Name, api.Open))
		case stock.EndElement:
			o.piece(of(x.Name, api.Close))
		case stock.CharData:
			o.text += string(x)
		}
	}
}

// P7.1: ordinary documents are read as the library's own decoder reads them.
func TestParseAsOthersDo(t *testing.T) {
	d := draws{71}
	held := 0
	for range 20000 {
		s := d.document()
		got, e := Parse(s)
		// The library reads line ends and the values of declarations otherwise, and more strictly in three other things.
		if e != api.OK || strings.ContainsAny(s, "\r") || strings.Contains(s, "]]>") || strings.Contains(s, "<?xml?>") || strings.Contains(s, "=\"&") {
			continue
		}
		want, err := told(s)
		if err != nil || !slices.Equal(got, want) {
			t.Fatalf("Parse(%q): %v, want %v %v", s, got, want, err)
		}
		held++
	}
	if held < 2000 {
		t.Errorf("only %d were held against the library", held)
	}
}

// P7.2, P7.3: all short rows of pieces are checked and printed as the oracle says.
func TestPiecesShort(t *testing.T) {
	few := []api.Piece{open(api.DavSpace, "a"), open(api.NoSpace, "b"), end(api.DavSpace, "a"), end(api.NoSpace, "b"), chars("x"), chars(" ")}
	var all func(ps []api.Piece, n int)
	all = func(ps []api.Piece, n int) {
		piecesShould(t, ps)
		if n == 0 {
			return
		}
		for _, p := range few {
			all(append(slices.Clone(ps), p), n-1)
		}
	}
	all(nil, 5)
}

// P7.2: a piece by itself: its kind, space, name and text.
func TestPieceFields(t *testing.T) {
	names := []string{"", "a", "_", "-", "9", ".", "a-._9Z", "é", "a b", "a:b", ":", "a/", "a>", "a<", "xmlns", "a\x00", "\xff", "a xmlns=''", strings.Repeat("n", 64), strings.Repeat("n", 65)}
	texts := []string{"", " ", "\t\n\r ", "x", " x", "\r", "\rx\r", "&", "<", ">", `"'`, "&amp;", "]]>", "é", "\u00a0", "\x00", "\x1f", "x\x7f", "\xff", "x\xc3", "\xed\xa0\x80", "\ufffd", "\U0010ffff", "-->", "<!--", "\u0085"}
	for kind := api.PieceKind(-1); kind <= 5; kind++ {
		for space := api.Space(-1); space <= 5; space++ {
			for _, name := range names {
				for _, text := range texts {
					p := api.Piece{Kind: kind, Space: space, Name: name, Text: text}
					shut := p
					shut.Kind = api.Close
					piecesShould(t, []api.Piece{p})
					piecesShould(t, []api.Piece{p, shut})
					piecesShould(t, []api.Piece{p, chars("y"), shut})
					piecesShould(t, about("a", p))
					piecesShould(t, about("a", p, shut))
				}
			}
		}
	}
}

// P7.2: an end has the space and the name of its beginning, and nothing more.
func TestPiecesFit(t *testing.T) {
	first := open(api.DavSpace, "a")
	for _, shut := range []api.Piece{end(api.DavSpace, "a"), end(api.CardSpace, "a"), end(api.NoSpace, "a"), end(api.DavSpace, "b"), end(api.DavSpace, "A"), {Kind: api.Close}, {Kind: api.Close, Space: api.DavSpace, Name: "a", Text: "x"}, first} {
		piecesShould(t, []api.Piece{first, shut})
		piecesShould(t, about("r", first, chars("x"), shut))
	}
	b := both(api.NoSpace, "b")
	for _, ps := range [][]api.Piece{nil, {}, {chars("x")}, {b[1]}, {b[0]}, {b[1], b[0]}, {b[0], b[1], b[0], b[1]}, {b[0], b[1], chars("x")}, {chars("x"), b[0], b[1]}, {b[0], b[1], b[1]}, {b[0], b[0], b[1]},
		{b[0], chars("x"), chars("y"), b[1]}, {b[0], chars("x"), b[0], b[1], chars("y"), b[1]}, {b[0], chars("x"), b[1]}, {{}}, {{}, {}}, {b[0], {}, b[1]}, {open(api.Foreign, "a"), end(api.Foreign, "a")}} {
		piecesShould(t, ps)
	}
	if e := Check(nil); e != api.ErrXML {
		t.Errorf("Check of nothing: %d", e)
	}
}

// P7.2: none lies deeper than may be.
func TestPiecesDepth(t *testing.T) {
	for n := 1; n <= 20; n++ {
		ps := slices.Concat(slices.Repeat([]api.Piece{open(api.CardSpace, "a")}, n), []api.Piece{chars("x")}, slices.Repeat([]api.Piece{end(api.CardSpace, "a")}, n))
		want := api.OK
		if n > 16 {
			want = api.ErrXML
		}
		if e := Check(ps); e != want {
			t.Errorf("Check of %d elements in one another: %d", n, e)
		}
		piecesShould(t, ps)
		piecesShould(t, about("r", slices.Concat(ps, ps)...))
	}
}

// P7.2: the form of what is printed.
func TestPrint(t *testing.T) {
	declared := ` xmlns:D="DAV:" xmlns:C="urn:ietf:params:xml:ns:carddav"`
	cases := []struct {
		want string
		ps   []api.Piece
	}{
		{"<a" + declared + "/>", both(api.NoSpace, "a")},
		{"<D:a" + declared + "/>", both(api.DavSpace, "a")},
		{"<C:a" + declared + "/>", both(api.CardSpace, "a")},
		{"<a" + declared + ">x</a>", about("a", chars("x"))},
		{"<a" + declared + ">&amp;amp;&lt;&gt;&#13;\n\"' ]]&gt;</a>", about("a", chars("&amp;<>\r\n\"' ]]>"))},
		{"<a" + declared + "><C:b/></a>", about("a", both(api.CardSpace, "b")...)},
		{"<a" + declared + "><b/><D:b/>x<b/></a>", about("a", slices.Concat(both(api.NoSpace, "b"), both(api.DavSpace, "b"), []api.Piece{chars("x")}, both(api.NoSpace, "b"))...)},
		{"<a" + declared + "><b><a> x</a></b></a>", about("a", about("b", about("a", chars(" x"))...)...)},
	}
	for _, c := range cases {
		if s, e := Print(c.ps); s != c.want || e != api.OK {
			t.Errorf("Print(%v): %q %d, want %q", c.ps, s, e, c.want)
		}
		piecesShould(t, c.ps)
	}
}

// P7.2: the bound on what is printed, which Check doesn't ask; Check's error is told first.
func TestPrintBound(t *testing.T) {
	empty, _ := Print(about("a", chars("x")))
	for _, c := range []struct {
		text string
		size int
	}{{"x", 1}, {"&", 5}, {"<", 4}, {"\r", 5}, {"é", 2}, {"x", 1}} {
		room := 65536 - len(empty)
		ps := about("a", chars("x"+strings.Repeat(c.text, room/c.size)+strings.Repeat("x", room%c.size)))
		s, e := Print(ps)
		if len(s) != 65536 || e != api.OK {
			t.Errorf("a text of %d bytes: %d", len(s), e)
		}
		parseIs(t, s, ps...)
		ps[1].Text += "x"
		if s, e := Print(ps); s != "" || e != api.ErrLong || Check(ps) != api.OK {
			t.Errorf("a text that is too long: %d bytes %d", len(s), e)
		}
		ps[1].Text += "\x00"
		if s, e := Print(ps); s != "" || e != api.ErrXML {
			t.Errorf("a text that is too long and not valid: %d bytes %d", len(s), e)
		}
	}
	many := about("a", slices.Repeat(both(api.NoSpace, "b"), 100000)...)
	if s, e := Print(many); s != "" || e != api.ErrLong || Check(many) != api.OK {
		t.Errorf("many elements: %d bytes %d", len(s), e)
	}
}

// P7.2, P7.3: drawn pieces, as they are and spoilt.
func TestPiecesDrawn(t *testing.T) {
	d := draws{72}
	good := 0
	for range 30000 {
		ps, e := Parse(d.document())
		if e != api.OK {
			continue
		}
		piecesShould(t, ps)
		if Check(ps) == api.OK {
			good++
		}
		i := d.Below(len(ps))
		switch d.Below(4) {
		case 0:
			ps = slices.Delete(ps, i, i+1)
		case 1:
			ps = slices.Insert(ps, i, ps[d.Below(len(ps))])
		case 2:
			ps[i] = []api.Piece{chars("x"), chars(" "), open(api.DavSpace, "a"), end(api.DavSpace, "a"), {}}[d.Below(5)]
		case 3:
			ps[i].Space = api.Space(d.Below(3))
		}
		piecesShould(t, ps)
	}
	if good < 2000 {
		t.Errorf("only %d were right", good)
	}
}

// Rule 5: pieces that are handed in stay as they are, their spare room too.
func TestArgumentsStay(t *testing.T) {
	ps := append(make([]api.Piece, 0, 20), about("a", append(both(api.DavSpace, "b"), chars("x\r&"))...)...)
	room := ps[:cap(ps)]
	before := slices.Clone(room)
	Check(ps)
	Print(ps)
	Check(ps[:2])
	Print(ps[:2])
	if !reflect.DeepEqual(room, before) {
		t.Errorf("the pieces were %v, are %v", before, room)
	}
}

// Rule 5: an answer is new memory.
func TestAnswersAreNew(t *testing.T) {
	s := "<a>x<b/></a>"
	first, _ := Parse(s)
	want := slices.Clone(first)
	room := first[:cap(first)]
	for i := range room {
		room[i] = chars("changed")
	}
	parseIs(t, s, want...)
}

// A panic that isn't a reader's goes on: it would be a fault of the program.
func TestOtherPanicsGoOn(t *testing.T) {
	defer func() {
		if recover() != "another" {
			t.Error("the panic was kept")
		}
	}()
	faultOf(func() { panic("another") })
}

// The oracle itself knows names.
func TestNames(t *testing.T) {
	for _, s := range []string{"", "a", "_", "9", "a9", strings.Repeat("n", 64), strings.Repeat("n", 65), "a\n"} {
		if isName(s) != named.MatchString(s) {
			t.Errorf("isName(%q)", s)
		}
	}
}
