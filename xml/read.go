package xml

import (
	"strconv"
	"strings"
	"unicode/utf8"

	"calepin/api"
	"calepin/char"
)

// fault is the error with which a reader gives up.
type fault api.Errno

// giveUp ends the reading: what is read is no document.
func giveUp() {
	panic(fault(api.ErrXML))
}

// faultOf is the error with which work gave up, OK if it came to its end.
func faultOf(work func()) (e api.Errno) {
	defer func() {
		what := recover()
		if what == nil {
			return
		}
		f, ours := what.(fault)
		if !ours {
			// A fault of the program isn't one of the document.
			panic(what)
		}
		e = api.Errno(f)
	}()
	work()
	return api.OK
}

// scope is an element's declarations, by prefix (the empty one for xmlns alone), and the scope of the element around it.
type scope struct {
	spaces map[string]api.Space
	around *scope
}

// space is that to which the prefix was declared last.
func (s *scope) space(prefix string) api.Space {
	for ; s != nil; s = s.around {
		if space, declared := s.spaces[prefix]; declared {
			return space
		}
	}
	if prefix != "" {
		giveUp()
	}
	return api.NoSpace
}

// spaceOf is the space that a declaration's value names.
func spaceOf(value string) api.Space {
	switch value {
	case "":
		return api.NoSpace
	case davSpace:
		return api.DavSpace
	case cardSpace:
		return api.CardSpace
	}
	return api.Foreign
}

// reader reads a document from its beginning on, and gives up where it is none.
type reader struct {
	rest   string          // what isn't read yet
	text   strings.Builder // the characters since the last piece
	pieces []api.Piece
}

// document reads all of it.
func (r *reader) document() {
	if r.take("<?xml") {
		r.until("?>")
	}
	r.aside()
	r.element(nil, 1)
	r.aside()
	if r.rest != "" {
		giveUp()
	}
}

// aside reads remarks and blanks.
func (r *reader) aside() {
	for r.blanks() || r.remark() {
	}
}

// element reads an element which is, with those around it, one of so many.
func (r *reader) element(around *scope, depth int) {
	if depth > api.MaxNest {
		giveUp()
	}
	r.need("<")
	start := r.rest
	prefix, name := r.fullName()
	full := start[:len(start)-len(r.rest)]
	in := &scope{spaces: r.declarations(), around: around}
	open := api.Piece{Kind: api.Open, Space: in.space(prefix), Name: name}
	r.put(open)
	if !r.take("/>") {
		r.need(">")
		r.content(in, depth)
		r.need("</" + full)
		r.blanks()
		r.need(">")
	}
	r.put(closing(open))
}

// fullName reads a name, and the prefix ahead of it, if there is one.
func (r *reader) fullName() (prefix, name string) {
	name = r.name()
	if !r.take(":") {
		return "", name
	}
	return name, r.name()
}

// name reads a name.
func (r *reader) name() string {
	end := nameEnd(r.rest)
	name := r.rest[:end]
	if !isName(name) {
		giveUp()
	}
	r.rest = r.rest[end:]
	return name
}

// declarations reads an element's declarations, and the blanks behind them.
func (r *reader) declarations() map[string]api.Space {
	spaces := map[string]api.Space{}
	for r.blanks() && r.take("xmlns") {
		prefix := ""
		if r.take(":") {
			prefix = r.name()
		}
		if _, twice := spaces[prefix]; twice {
			giveUp()
		}
		r.need("=")
		spaces[prefix] = spaceOf(r.quoted())
	}
	return spaces
}

// quoted reads a declaration's value.
func (r *reader) quoted() string {
	sign := `"`
	if !r.take(sign) {
		sign = "'"
		r.need(sign)
	}
	value := r.until(sign)
	if strings.Contains(value, "<") {
		giveUp()
	}
	return value
}

// content reads what stands between the beginning and the end of an element.
func (r *reader) content(in *scope, depth int) {
	for !strings.HasPrefix(r.rest, "</") {
		switch {
		case r.remark(), r.characters():
		case r.take("&"):
			r.text.WriteString(meant(r.until(";")))
		default:
			r.element(in, depth+1)
		}
	}
}

// remark reads a remark, false if there is none.
func (r *reader) remark() bool {
	if !r.take("<!--") {
		return false
	}
	if strings.Contains(r.until("-->"), "--") {
		giveUp()
	}
	return true
}

// characters reads those that stand for themselves, false if there are none.
func (r *reader) characters() bool {
	end := strings.IndexAny(r.rest, "<&")
	if end < 0 {
		// No content ends with the document.
		giveUp()
	}
	r.text.WriteString(r.rest[:end])
	r.rest = r.rest[end:]
	return end > 0
}

// meant is the character for which a name stands between & and ;.
func meant(name string) string {
	switch name {
	case "amp":
		return "&"
	case "lt":
		return "<"
	case "gt":
		return ">"
	case "quot":
		return `"`
	case "apos":
		return "'"
	}
	digits, numbered := strings.CutPrefix(name, "#")
	point, ok := number(digits)
	// A surrogate's text would be that of another character, which is valid.
	if !numbered || !ok || !utf8.ValidRune(rune(point)) || !char.Valid(string(rune(point))) {
		giveUp()
	}
	return string(rune(point))
}

// number is the code point that the digits tell, those of sixteen behind an x; false, if there is none so great.
func number(digits string) (uint64, bool) {
	sixteen, ok := strings.CutPrefix(digits, "x")
	if !ok {
		return char.Number(digits, utf8.MaxRune)
	}
	n, err := strconv.ParseUint(sixteen, 16, 64)
	return n, err == nil && n <= utf8.MaxRune
}

// put lays p behind the other pieces, and ahead of it the characters between.
func (r *reader) put(p api.Piece) {
	text := r.text.String()
	r.text.Reset()
	if !isBlank(text) {
		r.pieces = append(r.pieces, api.Piece{Kind: api.Chars, Text: text})
	}
	r.pieces = append(r.pieces, p)
}

// blanks reads blanks, false if there are none.
func (r *reader) blanks() bool {
	rest := strings.TrimLeft(r.rest, blanks)
	some := len(rest) < len(r.rest)
	r.rest = rest
	return some
}

// take reads s, false if something else stands there.
func (r *reader) take(s string) bool {
	rest, found := strings.CutPrefix(r.rest, s)
	r.rest = rest
	return found
}

// need reads s, which must stand there.
func (r *reader) need(s string) {
	if !r.take(s) {
		giveUp()
	}
}

// until reads what stands ahead of the mark, and the mark.
func (r *reader) until(mark string) string {
	ahead, rest, found := strings.Cut(r.rest, mark)
	if !found {
		giveUp()
	}
	r.rest = rest
	return ahead
}
