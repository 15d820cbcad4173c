package dav

import (
	"regexp"
	"slices"
	"strings"
	"testing"
	"unicode/utf8"

	"calepin/api"
	"calepin/trial"
	"calepin/xml"
)

// The chapter's forms as patterns over flat texts: oracles of another make than the package's.
const (
	gonePattern = `<D:status>HTTP/1\.1 404 Not Found</D:status>`
	kindPattern = `<D:resourcetype><D:collection></D:collection><C:addressbook></C:addressbook></D:resourcetype>`
	propPattern = `<D:prop>(?:<D:getetag>([^<]+)</D:getetag>)?(?:<C:address-data>([^<]+)</C:address-data>)?(` + kindPattern + `)?</D:prop>`
	statPattern = `<D:propstat>` + propPattern + `<D:status>HTTP/1\.1 200 OK</D:status></D:propstat>`
	itemPattern = `<D:response><D:href>([^<]+)</D:href>(?:(` + gonePattern + `)|` + statPattern + `)</D:response>`
	toldPattern = `^<D:multistatus>((?:` + itemPattern + `)*)(?:<D:sync-token>([^<]+)</D:sync-token>)?</D:multistatus>$`
)

var (
	oneItem   = regexp.MustCompile(itemPattern)
	wholeTold = regexp.MustCompile(toldPattern)
	nameForm  = regexp.MustCompile(`^[A-Za-z_][A-Za-z0-9._-]{0,63}$`)
	blankText = regexp.MustCompile(`^[ \t\n\r]+$`)
	control   = regexp.MustCompile(`[\x00-\x08\x0B\x0C\x0E-\x1F\x7F]`)
)

// root is what the root has beside its name in what is printed.
const root = ` xmlns:D="DAV:" xmlns:C="urn:ietf:params:xml:ns:carddav"`

// prefixed is p's name behind a letter for its space.
func prefixed(p api.Piece) string {
	return []string{"N:", "D:", "C:", "F:"}[p.Space] + p.Name
}

// places are a document's elements, each as the names from the root to it, and its characters, behind their element and a "=".
func places(ps []api.Piece) []string {
	var at, all []string
	for _, p := range ps {
		switch p.Kind {
		case api.Open:
			at = append(at, prefixed(p))
			all = append(all, strings.Join(at, "/"))
		case api.Close:
			at = at[:len(at)-1]
		case api.Chars:
			all = append(all, strings.Join(at, "/")+"="+p.Text)
		}
	}
	return all
}

// compiled are the patterns that were asked for, which making anew takes long.
var compiled = map[string]*regexp.Regexp{}

// matches are the first groups of the pattern in those of the places that match it.
func matches(all []string, pattern string) []string {
	form, known := compiled[pattern]
	if !known {
		form = regexp.MustCompile(`^(?s:` + pattern + `)`)
		compiled[pattern] = form
	}
	var found []string
	for _, place := range all {
		if m := form.FindStringSubmatch(place); m != nil {
			found = append(found, m[len(m)-1])
		}
	}
	return found
}

// wantedProps are the properties below the place of a D:prop, false if there isn't just one right one.
func wantedProps(all []string, above string) ([]api.Prop, bool) {
	at := above + `/D:prop`
	if len(matches(all, at+`$`)) != 1 || len(matches(all, at+`(/[^/=]+)?=`)) > 0 || len(matches(all, at+`/[^/=]+/`)) > 0 {
		return nil, false
	}
	var props []api.Prop
	for _, name := range matches(all, at+`/([^/=]+)$`) {
		props = append(props, api.Prop{Space: api.Space(strings.Index("NDCF", name[:1])), Name: name[2:]})
	}
	return props, true
}

// wantedAsk is what ParseAsk should answer.
func wantedAsk(body string) (api.Ask, api.Errno) {
	if body == "" {
		return api.Ask{Kind: 1}, api.OK
	}
	ps, e := xml.Parse(body)
	if e != api.OK {
		return api.Ask{}, e
	}
	all := places(ps)
	a, ok := api.Ask{}, false
	switch top := all[0]; top {
	case "D:propfind":
		a, ok = wantedPropfind(all)
	case "D:sync-collection":
		token, level := top+`/D:sync-token`, top+`/D:sync-level`
		once := len(matches(all, token+`$`)) == 1 && len(matches(all, level+`$`)) == 1
		plain := len(matches(all, token+`/`)) == 0 && len(matches(all, level+`/`)) == 0
		props, fine := wantedProps(all, top)
		a = api.Ask{Kind: 4, Props: props, Token: strings.Join(matches(all, token+`=(.*)$`), "")}
		ok = once && plain && fine && slices.Equal(matches(all, level+`=(.*)$`), []string{"1"})
	case "C:addressbook-multiget":
		href := top + `/D:href`
		props, fine := wantedProps(all, top)
		a = api.Ask{Kind: 5, Props: props, Hrefs: matches(all, href+`=(.*)$`)}
		ok = fine && len(matches(all, href+`$`)) == len(a.Hrefs) && len(matches(all, href+`/`)) == 0
	}
	if !ok || len(matches(all, all[0]+`=`)) > 0 {
		return api.Ask{}, api.ErrBody
	}
	return a, api.OK
}

// wantedPropfind is what the places of a D:propfind ask for.
func wantedPropfind(all []string) (api.Ask, bool) {
	kinds := matches(all, `D:propfind/D:(allprop|propname|prop)$`)
	if len(kinds) != 1 {
		return api.Ask{}, false
	}
	switch kinds[0] {
	case "allprop":
		return api.Ask{Kind: 1}, true
	case "propname":
		return api.Ask{Kind: 2}, true
	}
	props, ok := wantedProps(all, `D:propfind`)
	return api.Ask{Kind: 3, Props: props}, ok
}

// flat is a document in one text, in which a < stands for a tag's beginning alone.
func flat(ps []api.Piece) string {
	var s strings.Builder
	for _, p := range ps {
		switch p.Kind {
		case api.Open:
			s.WriteString("<" + prefixed(p) + ">")
		case api.Close:
			s.WriteString("</" + prefixed(p) + ">")
		case api.Chars:
			s.WriteString(strings.ReplaceAll(p.Text, "<", "\x00"))
		}
	}
	return s.String()
}

// wantedTold is what ParseTold should answer.
func wantedTold(body string) (api.Told, api.Errno) {
	ps, e := xml.Parse(body)
	if e != api.OK {
		return api.Told{}, e
	}
	m := wholeTold.FindStringSubmatch(flat(ps))
	if m == nil {
		return api.Told{}, api.ErrBody
	}
	var t api.Told
	text := func(s string) string { return strings.ReplaceAll(s, "\x00", "<") }
	for _, i := range oneItem.FindAllStringSubmatch(m[1], -1) {
		t.Items = append(t.Items, api.Item{Href: text(i[1]), Gone: i[2] != "", Tag: text(i[3]), Data: text(i[4]), Book: i[5] != ""})
	}
	t.Token = text(m[len(m)-1])
	return t, api.OK
}

// sameAsk tells whether both asks are one.
func sameAsk(a, b api.Ask) bool {
	return a.Kind == b.Kind && a.Token == b.Token && slices.Equal(a.Props, b.Props) && slices.Equal(a.Hrefs, b.Hrefs)
}

// sameTold tells whether both tell the same.
func sameTold(a, b api.Told) bool {
	return a.Token == b.Token && slices.Equal(a.Items, b.Items)
}

// asksIs asks that ParseAsk answers just this.
func asksIs(t *testing.T, body string, want api.Ask, fault api.Errno) {
	t.Helper()
	if got, e := ParseAsk(body); e != fault || !sameAsk(got, want) {
		t.Errorf("ParseAsk(%q): %v %d, want %v %d", body, got, e, want, fault)
	}
}

// tellsIs asks that ParseTold answers just this.
func tellsIs(t *testing.T, body string, want api.Told, fault api.Errno) {
	t.Helper()
	if got, e := ParseTold(body); e != fault || !sameTold(got, want) {
		t.Errorf("ParseTold(%q): %v %d, want %v %d", body, got, e, want, fault)
	}
}

// should asks that both parsers answer what the oracles say, and that what they answer is printed and read again.
func should(t *testing.T, body string) (api.Errno, api.Errno) {
	t.Helper()
	ask, askFault := wantedAsk(body)
	asksIs(t, body, ask, askFault)
	told, toldFault := wantedTold(body)
	tellsIs(t, body, told, toldFault)
	if askFault == api.OK && !slices.ContainsFunc(ask.Props, func(p api.Prop) bool { return p.Space == api.Foreign }) {
		text, e := PrintAsk(ask)
		if e != api.OK {
			t.Errorf("PrintAsk of what was read, %v: %d", ask, e)
		}
		asksIs(t, text, ask, api.OK)
	}
	if toldFault == api.OK {
		text, e := PrintTold(told)
		if e != api.OK {
			t.Errorf("PrintTold of what was read, %v: %d", told, e)
		}
		tellsIs(t, text, told, api.OK)
	}
	if t.Failed() {
		t.FailNow()
	}
	return askFault, toldFault
}

// Short forms of properties.
func prop(space api.Space, name string) api.Prop {
	return api.Prop{Space: space, Name: name}
}

var (
	etag = prop(api.DavSpace, "getetag")
	data = prop(api.CardSpace, "address-data")
)

func TestExamples(t *testing.T) {
	asksIs(t, `<D:propfind xmlns:D="DAV:"><D:prop><D:getetag/></D:prop></D:propfind>`, api.Ask{Kind: 3, Props: []api.Prop{etag}}, api.OK)
	asksIs(t, `<D:propfind xmlns:D="DAV:"/>`, api.Ask{}, api.ErrBody)
	asksIs(t, "", api.Ask{Kind: 1}, api.OK)
}

// within is body between the tags of a root with all prefixes declared.
func within(name, body string) string {
	return "<" + name + ` xmlns:D="DAV:" xmlns:C="urn:ietf:params:xml:ns:carddav" xmlns:F="urn:x">` + body + "</" + name + ">"
}

func TestParsePropfind(t *testing.T) {
	is := func(body string, want api.Ask) {
		t.Helper()
		asksIs(t, within("D:propfind", body), want, api.OK)
	}
	is("<D:allprop/>", api.Ask{Kind: 1})
	is("<D:propname/>", api.Ask{Kind: 2})
	is("<D:prop/>", api.Ask{Kind: 3})
	is("<D:prop> <D:getetag/>\r\n<C:address-data></C:address-data><x/>\t<F:y> </F:y><!-- z --></D:prop>", api.Ask{Kind: 3, Props: []api.Prop{etag, data, prop(0, "x"), prop(3, "y")}})
	is("<D:prop><D:getetag/><D:prop/><D:getetag/></D:prop>", api.Ask{Kind: 3, Props: []api.Prop{etag, prop(1, "prop"), etag}})
	// The content of D:allprop and D:propname, and elements that aren't named, with all in them, are passed over.
	is("<D:allprop>x<D:prop>y</D:prop></D:allprop>", api.Ask{Kind: 1})
	is("<D:propname><D:allprop/>x</D:propname>", api.Ask{Kind: 2})
	is("<D:include><D:getetag/></D:include><D:allprop/><F:prop>x<D:prop/></F:prop>", api.Ask{Kind: 1})
	is("<C:prop/><D:prop><D:getetag/></D:prop><prop/><D:Prop/>", api.Ask{Kind: 3, Props: []api.Prop{etag}})
	asksIs(t, `<?xml version="1.0"?><!-- x --> <propfind xmlns="DAV:"><prop><getetag/></prop></propfind>`+"\n", api.Ask{Kind: 3, Props: []api.Prop{etag}}, api.OK)
	for _, body := range []string{
		"", " ", "x", "<D:include/>", "<F:allprop/>", "<C:prop/>", "<prop/>",
		"x<D:allprop/>", "<D:allprop/>x", "<D:allprop/>&#160;", "<D:include/>x<D:allprop/>",
		"<D:allprop/><D:allprop/>", "<D:allprop/><D:propname/>", "<D:allprop/><D:prop/>", "<D:prop/><D:prop/>", "<D:propname/><D:prop/><D:propname/>", "<D:propname/><D:propname/>",
		"<D:prop>x</D:prop>", "<D:prop><D:getetag>x</D:getetag></D:prop>", "<D:prop><D:getetag><x/></D:getetag></D:prop>", "<D:prop><D:getetag/>x</D:prop>", "<D:prop>x<D:getetag/></D:prop>",
		"<D:prop><F:y><D:getetag/></F:y></D:prop>",
	} {
		asksIs(t, within("D:propfind", body), api.Ask{}, api.ErrBody)
	}
	for _, name := range []string{"C:propfind", "F:propfind", "propfind", "D:prop", "D:allprop", "D:Propfind", "D:multistatus"} {
		asksIs(t, within(name, "<D:allprop/>"), api.Ask{}, api.ErrBody)
	}
}

func TestParseSync(t *testing.T) {
	const token, level, props = "<D:sync-token>a b</D:sync-token>", "<D:sync-level>1</D:sync-level>", "<D:prop><D:getetag/></D:prop>"
	want := api.Ask{Kind: 4, Token: "a b", Props: []api.Prop{etag}}
	for _, order := range [][]string{{token, level, props}, {token, props, level}, {level, token, props}, {level, props, token}, {props, token, level}, {props, level, token}} {
		asksIs(t, within("D:sync-collection", strings.Join(order, "")), want, api.OK)
		asksIs(t, within("D:sync-collection", "\n<D:limit>x<D:prop/></D:limit>"+strings.Join(order, "<F:sync-token/> <!-- x --><C:prop>y</C:prop>")+"<sync-level>2</sync-level>"), want, api.OK)
		for i := range order {
			less := slices.Delete(slices.Clone(order), i, i+1)
			more := append(slices.Clone(order), order[i])
			asksIs(t, within("D:sync-collection", strings.Join(less, "")), api.Ask{}, api.ErrBody)
			asksIs(t, within("D:sync-collection", strings.Join(more, "")), api.Ask{}, api.ErrBody)
			asksIs(t, within("D:sync-collection", strings.Join(order[:i], "")+"x"+strings.Join(order[i:], "")), api.Ask{}, api.ErrBody)
		}
	}
	for text, said := range map[string]string{"": "", " \r\n\t": "", "&#32;": "", " x ": " x ", "x<!-- y -->z": "xz", "&lt;&#13;é": "<\ré", "1": "1"} {
		asksIs(t, within("D:sync-collection", "<D:sync-token>"+text+"</D:sync-token>"+level+props), api.Ask{Kind: 4, Token: said, Props: want.Props}, api.OK)
	}
	asksIs(t, within("D:sync-collection", token+"<D:sync-level><!-- x -->&#49;</D:sync-level><D:prop/>"), api.Ask{Kind: 4, Token: "a b"}, api.OK)
	for _, other := range []string{"", "0", "2", "infinity", "11", " 1", "1 ", "01", "<x/>1", "1<x/>", "<x>1</x>", "<D:sync-level>1</D:sync-level>"} {
		asksIs(t, within("D:sync-collection", token+"<D:sync-level>"+other+"</D:sync-level>"+props), api.Ask{}, api.ErrBody)
	}
	for _, other := range []string{"<x/>", "a<x/>", "<x/>b", "a<x/>b", "<D:sync-token>a</D:sync-token>"} {
		asksIs(t, within("D:sync-collection", "<D:sync-token>"+other+"</D:sync-token>"+level+props), api.Ask{}, api.ErrBody)
	}
	for _, other := range []string{"x", "<D:getetag/>x", "<D:getetag>x</D:getetag>", "<D:getetag><x/></D:getetag>"} {
		asksIs(t, within("D:sync-collection", token+level+"<D:prop>"+other+"</D:prop>"), api.Ask{}, api.ErrBody)
	}
	asksIs(t, within("C:sync-collection", token+level+props), api.Ask{}, api.ErrBody)
	asksIs(t, within("D:propfind", token+level), api.Ask{}, api.ErrBody)
}

func TestParseMultiget(t *testing.T) {
	is := func(body string, want api.Ask) {
		t.Helper()
		asksIs(t, within("C:addressbook-multiget", body), want, api.OK)
	}
	both := []api.Prop{etag, data}
	is("<D:prop/>", api.Ask{Kind: 5})
	is("<D:prop><D:getetag/><C:address-data/></D:prop><D:href>/a/x</D:href>", api.Ask{Kind: 5, Props: both, Hrefs: []string{"/a/x"}})
	is("<D:href> /a/y </D:href><D:prop><D:getetag/><C:address-data/></D:prop>\n<D:href>x&amp;<!-- y -->z</D:href><D:href> /a/y </D:href>", api.Ask{Kind: 5, Props: both, Hrefs: []string{" /a/y ", "x&z", " /a/y "}})
	is("<F:href/><D:href>a</D:href><C:href>b</C:href><x><D:href/>y</x><D:prop/><C:filter>x</C:filter>", api.Ask{Kind: 5, Hrefs: []string{"a"}})
	asksIs(t, `<addressbook-multiget xmlns="urn:ietf:params:xml:ns:carddav"><prop xmlns="DAV:"><address-data xmlns="urn:ietf:params:xml:ns:carddav"/></prop><href xmlns="DAV:">/a/x</href></addressbook-multiget>`, api.Ask{Kind: 5, Props: []api.Prop{data}, Hrefs: []string{"/a/x"}}, api.OK)
	for _, body := range []string{
		"", "<D:href>a</D:href>", "<C:prop/>", "<D:prop/><D:prop/>", "<D:prop/><D:href>a</D:href><D:prop/>",
		"<D:prop/><D:href/>", "<D:prop/><D:href> \t</D:href>", "<D:prop/><D:href>a</D:href><D:href/>", "<D:prop/><D:href>a<x/></D:href>", "<D:prop/><D:href><x/>a</D:href>", "<D:prop/><D:href><x>a</x></D:href>",
		"x<D:prop/>", "<D:prop/>x<D:href>a</D:href>", "<D:prop/><D:href>a</D:href>x", "<D:prop>x</D:prop>", "<D:prop><D:getetag>x</D:getetag></D:prop>", "<D:prop><D:href>a</D:href></D:prop>",
	} {
		asksIs(t, within("C:addressbook-multiget", body), api.Ask{}, api.ErrBody)
	}
	asksIs(t, within("D:addressbook-multiget", "<D:prop/>"), api.Ask{}, api.ErrBody)
	asksIs(t, within("addressbook-multiget", "<D:prop/>"), api.Ask{}, api.ErrBody)
}

func TestParseErrors(t *testing.T) {
	fill := func(n int) string {
		s := within("D:propfind", "<D:allprop/>")
		return s + strings.Repeat(" ", n-len(s))
	}
	asksIs(t, fill(api.MaxText), api.Ask{Kind: 1}, api.OK)
	asksIs(t, fill(api.MaxText+1), api.Ask{}, api.ErrLong)
	tellsIs(t, fill(api.MaxText), api.Told{}, api.ErrBody)
	tellsIs(t, fill(api.MaxText+1), api.Told{}, api.ErrLong)
	for body, fault := range map[string]api.Errno{
		" ": api.ErrXML, "x": api.ErrXML, "<a>": api.ErrXML, "<D:propfind><D:allprop/></D:propfind>": api.ErrXML, "\x00": api.ErrText, "<a>\xff</a>": api.ErrText, "<a>\x7f": api.ErrText, "<a/>": api.ErrBody,
		within("D:propfind", "<D:allprop/>") + "<a/>": api.ErrXML, within("D:multistatus", "") + "x": api.ErrXML, strings.Repeat("\x00", api.MaxText+1): api.ErrLong,
	} {
		asksIs(t, body, api.Ask{}, fault)
		tellsIs(t, body, api.Told{}, fault)
	}
	tellsIs(t, "", api.Told{}, api.ErrXML)
}

// rightText tells whether characters may say s.
func rightText(s string) bool {
	return utf8.ValidString(s) && !control.MatchString(s) && !blankText.MatchString(s)
}

// mayPrint tells whether the chapter lets a be printed, but for its length.
func mayPrint(a api.Ask) bool {
	for _, p := range a.Props {
		if a.Kind < 3 || p.Space < 0 || p.Space > 2 || !nameForm.MatchString(p.Name) {
			return false
		}
	}
	for _, href := range a.Hrefs {
		if a.Kind != 5 || href == "" || !rightText(href) {
			return false
		}
	}
	return a.Kind >= 1 && a.Kind <= 5 && (a.Token == "" || a.Kind == 4 && rightText(a.Token))
}

// texts are characters of all kinds: some may be told, some not.
func texts() []string {
	return []string{"t", " t ", "\n<&>\"'\r\t.", "é\u0085\U0010FFFF", "]]>", "&amp;", "1", " ", "\t\r\n ", "\u00a0", "\x00", "a\x1fb", "\x7f", "\xff", "a\xc0\x80", "\xed\xa0\x80"}
}

// propLists are lists of properties of all kinds.
func propLists() [][]api.Prop {
	lists := [][]api.Prop{nil, {}, {etag, data}, {etag, etag}, {data, prop(0, "x"), prop(1, "prop"), prop(2, "_.-9")}}
	for _, space := range []api.Space{-1 << 63, -1, 0, 1, 2, 3, 4, 257, 1<<63 - 1} {
		lists = append(lists, []api.Prop{prop(space, "a")}, []api.Prop{etag, prop(space, "b"), data})
	}
	for _, name := range []string{"", "1", "-a", ".a", "a b", "a:b", "a/", "a>", "é", "a\x00", "a\xff", "A_", strings.Repeat("n", 64), strings.Repeat("n", 65)} {
		lists = append(lists, []api.Prop{prop(1, name)}, []api.Prop{data, prop(0, name)})
	}
	return lists
}

// hrefLists are lists of hrefs of all kinds.
func hrefLists() [][]string {
	lists := [][]string{nil, {}, {"/a/x", "/a/y", "/a/x"}, {""}, {"/a/x", ""}, {"", "/a/x"}}
	for _, s := range texts() {
		lists = append(lists, []string{s}, []string{"/a/x", s})
	}
	return lists
}

func TestPrintAsk(t *testing.T) {
	for _, kind := range []api.AskKind{-1 << 63, -1, 0, 1, 2, 3, 4, 5, 6, 7, 260, 1<<63 - 1} {
		for _, props := range propLists() {
			for _, token := range append(texts(), "") {
				for _, hrefs := range hrefLists() {
					printShould(t, api.Ask{Kind: kind, Props: props, Token: token, Hrefs: hrefs})
				}
			}
		}
	}
}

// printShould asks that PrintAsk answers a text that is read as a, or the error if there is none.
func printShould(t *testing.T, a api.Ask) {
	t.Helper()
	text, e := PrintAsk(a)
	if !mayPrint(a) {
		if text != "" || e != api.ErrBody {
			t.Fatalf("PrintAsk(%v): %q %d, want %d", a, text, e, api.ErrBody)
		}
		return
	}
	if e != api.OK {
		t.Fatalf("PrintAsk(%v): %d", a, e)
	}
	got, e := ParseAsk(text)
	want, fault := wantedAsk(text)
	if e != api.OK || fault != api.OK || !sameAsk(got, a) || !sameAsk(want, a) {
		t.Fatalf("PrintAsk(%v): %q, read as %v %d, should be read as %v %d", a, text, got, e, want, fault)
	}
}

func TestPrintAskLength(t *testing.T) {
	const multi = "<C:addressbook-multiget" + root + "><D:prop/><D:href></D:href></C:addressbook-multiget>"
	const sync = "<D:sync-collection" + root + "><D:sync-token></D:sync-token><D:sync-level>1</D:sync-level><D:prop/></D:sync-collection>"
	for _, more := range []int{0, 1, 1 << 20} {
		for _, a := range []api.Ask{
			{Kind: 5, Hrefs: []string{strings.Repeat("h", api.MaxText-len(multi)+more)}},
			{Kind: 5, Hrefs: []string{strings.Repeat("&", (api.MaxText-len(multi))/5) + strings.Repeat("h", (api.MaxText-len(multi))%5+more)}},
			{Kind: 4, Token: strings.Repeat("t", api.MaxText-len(sync)+more)},
		} {
			text, e := PrintAsk(a)
			if more == 0 {
				asksIs(t, text, a, api.OK)
			}
			if more == 0 && e != api.OK || more > 0 && (e != api.ErrLong || text != "") {
				t.Errorf("PrintAsk of kind %d, %d bytes too many: %d bytes, error %d", a.Kind, more, len(text), e)
			}
			// What can't be said at all is told first.
			a.Props = []api.Prop{prop(1, strings.Repeat("p", 65))}
			if text, e := PrintAsk(a); text != "" || e != api.ErrBody {
				t.Errorf("PrintAsk of a bad property, %d bytes too many: %d bytes, error %d", more, len(text), e)
			}
		}
	}
	many := api.Ask{Kind: 3, Props: slices.Repeat([]api.Prop{etag}, 10000)}
	if text, e := PrintAsk(many); text != "" || e != api.ErrLong {
		t.Errorf("PrintAsk of many properties: %d bytes, error %d", len(text), e)
	}
}

// escaped is text as a document says it.
func escaped(text string) string {
	for _, sign := range [][2]string{{"&", "&amp;"}, {"<", "&lt;"}, {">", "&gt;"}, {"\r", "&#13;"}} {
		text = strings.ReplaceAll(text, sign[0], sign[1])
	}
	return text
}

// filledIn is a tag with text between, if there is one.
func filledIn(tag, text string) string {
	if text == "" {
		return ""
	}
	return "<" + tag + ">" + escaped(text) + "</" + tag + ">"
}

// writtenTold is the text of what is told, made of templates.
func writtenTold(t api.Told) string {
	s := ""
	for _, i := range t.Items {
		s += "<D:response>" + filledIn("D:href", i.Href)
		inner := filledIn("D:getetag", i.Tag) + filledIn("C:address-data", i.Data)
		if i.Book {
			inner += "<D:resourcetype><D:collection/><C:addressbook/></D:resourcetype>"
		}
		switch {
		case i.Gone:
			s += "<D:status>HTTP/1.1 404 Not Found</D:status>"
		case inner == "":
			s += "<D:propstat><D:prop/><D:status>HTTP/1.1 200 OK</D:status></D:propstat>"
		default:
			s += "<D:propstat><D:prop>" + inner + "</D:prop><D:status>HTTP/1.1 200 OK</D:status></D:propstat>"
		}
		s += "</D:response>"
	}
	s += filledIn("D:sync-token", t.Token)
	if s == "" {
		return "<D:multistatus" + root + "/>"
	}
	return "<D:multistatus" + root + ">" + s + "</D:multistatus>"
}

// mayTell tells whether the chapter lets t be printed, but for its length.
func mayTell(t api.Told) bool {
	for _, i := range t.Items {
		if i.Href == "" || i.Gone && (i.Tag != "" || i.Data != "" || i.Book) || !rightText(i.Href) || !rightText(i.Tag) || !rightText(i.Data) {
			return false
		}
	}
	return rightText(t.Token)
}

// tellShould asks that PrintTold answers just the text of the templates, which is read as told again, or the error.
func tellShould(t *testing.T, told api.Told) {
	t.Helper()
	want, fault := "", api.ErrBody
	if mayTell(told) {
		want, fault = writtenTold(told), api.OK
	}
	text, e := PrintTold(told)
	if text != want || e != fault {
		t.Fatalf("PrintTold(%v): %q %d, want %q %d", told, text, e, want, fault)
	}
	if e != api.OK {
		return
	}
	if got, e := ParseTold(text); e != api.OK || !sameTold(got, told) {
		t.Fatalf("ParseTold(%q): %v %d, want %v", text, got, e, told)
	}
}

// items are all items of such texts.
func items(hrefs, texts []string) []api.Item {
	var all []api.Item
	for _, href := range hrefs {
		for _, tag := range texts {
			for _, data := range texts {
				for _, is := range [][2]bool{{false, false}, {false, true}, {true, false}, {true, true}} {
					all = append(all, api.Item{Href: href, Gone: is[0], Tag: tag, Data: data, Book: is[1]})
				}
			}
		}
	}
	return all
}

func TestPrintTold(t *testing.T) {
	tellShould(t, api.Told{})
	tellShould(t, api.Told{Items: []api.Item{}})
	all := append(texts(), "", `"2"`, "HTTP/1.1 404 Not Found", "BEGIN:VCARD\r\nVERSION:4.0\r\nFN:Jo\r\nEND:VCARD\r\n")
	for _, i := range items(all, all) {
		for _, token := range []string{"", "a 1", " "} {
			tellShould(t, api.Told{Items: []api.Item{i}, Token: token})
		}
	}
	few := items([]string{"/a/x", ""}, []string{"", " 2", " "})
	for _, i := range few {
		for _, j := range few {
			for _, token := range all {
				tellShould(t, api.Told{Items: []api.Item{i, j}, Token: token})
			}
			tellShould(t, api.Told{Items: []api.Item{i, j, i, {Href: "/", Gone: true}}})
		}
	}
}

func TestPrintToldLength(t *testing.T) {
	full := func() api.Told {
		return api.Told{Items: []api.Item{{Href: "/a/x", Tag: "2", Data: "d"}, {Href: "/a/y", Gone: true}, {Href: "/a/", Book: true}}, Token: "t"}
	}
	room := api.MaxText - len(writtenTold(full()))
	for _, text := range []func(told *api.Told) *string{
		func(told *api.Told) *string { return &told.Items[0].Href },
		func(told *api.Told) *string { return &told.Items[0].Tag },
		func(told *api.Told) *string { return &told.Items[0].Data },
		func(told *api.Told) *string { return &told.Items[1].Href },
		func(told *api.Told) *string { return &told.Token },
	} {
		told := full()
		*text(&told) += strings.Repeat("<", room/4) + strings.Repeat("x", room%4)
		tellShould(t, told)
		for _, more := range []int{1, 1 << 20} {
			told := full()
			*text(&told) += strings.Repeat("<", room/4) + strings.Repeat("x", room%4+more)
			if s, e := PrintTold(told); s != "" || e != api.ErrLong {
				t.Errorf("PrintTold, %d bytes too many: %d bytes, error %d", more, len(s), e)
			}
			// What can't be told at all is said first.
			told.Items = append(told.Items, api.Item{})
			if s, e := PrintTold(told); s != "" || e != api.ErrBody {
				t.Errorf("PrintTold without a path, %d bytes too many: %d bytes, error %d", more, len(s), e)
			}
		}
	}
	if s, e := PrintTold(api.Told{Items: slices.Repeat([]api.Item{{Href: "/a/x"}}, 10000)}); s != "" || e != api.ErrLong {
		t.Errorf("PrintTold of many items: %d bytes, error %d", len(s), e)
	}
}

func TestParseTold(t *testing.T) {
	const there, gone = "<D:status>HTTP/1.1 200 OK</D:status>", "<D:status>HTTP/1.1 404 Not Found</D:status>"
	is := func(body string, want api.Told) {
		t.Helper()
		tellsIs(t, within("D:multistatus", body), want, api.OK)
	}
	one := func(i api.Item) api.Told { return api.Told{Items: []api.Item{i}} }
	is("", api.Told{})
	is("<D:sync-token>t</D:sync-token>", api.Told{Token: "t"})
	is("<D:response><D:href>/a/x</D:href>"+gone+"</D:response>", one(api.Item{Href: "/a/x", Gone: true}))
	is("<D:response><D:href>/a/x</D:href><D:propstat><D:prop/>"+there+"</D:propstat></D:response>", one(api.Item{Href: "/a/x"}))
	// Blanks between elements and remarks are no pieces; blanks at the ends of characters belong to them.
	is("\n<D:response> <D:href> /a/x\n</D:href>\t<D:propstat><D:prop>\r\n<D:getetag>&#32;2</D:getetag><!-- y --></D:prop>"+there+" </D:propstat></D:response>", one(api.Item{Href: " /a/x\n", Tag: " 2"}))
	tellsIs(t, `<multistatus xmlns="DAV:"><response><href>x</href><propstat><prop><resourcetype><collection/><c:addressbook xmlns:c="urn:ietf:params:xml:ns:carddav"></c:addressbook></resourcetype></prop><status>HTTP/1.1 200 OK</status></propstat></response></multistatus>`, one(api.Item{Href: "x", Book: true}), api.OK)
	for _, body := range []string{
		"x", "<D:sync-token/>", "<D:sync-token> </D:sync-token>", "<D:sync-token>t</D:sync-token><D:sync-token>t</D:sync-token>", "<C:sync-token>t</C:sync-token>", "<D:sync-token>t<x/></D:sync-token>",
		"<D:response/>", "<D:response>" + gone + "</D:response>", "<D:response><D:href/>" + gone + "</D:response>", "<D:response><D:href> </D:href>" + gone + "</D:response>", "<D:response><D:href>x</D:href></D:response>",
		"<D:response>" + gone + "<D:href>x</D:href></D:response>", "<D:response><D:href>x</D:href>" + there + "</D:response>", "<D:response><D:href>x</D:href>" + gone + gone + "</D:response>",
		"<D:response><D:href>x</D:href><D:status> HTTP/1.1 404 Not Found</D:status></D:response>", "<D:response><D:href>x</D:href><D:status>HTTP/1.1 404 not found</D:status></D:response>",
		"<D:response><D:href>x</D:href><D:propstat><D:prop/></D:propstat>" + there + "</D:response>", "<D:response><D:href>x</D:href><D:propstat><D:prop/>" + gone + "</D:propstat></D:response>",
		"<D:response><D:href>x</D:href><D:propstat>" + there + "<D:prop/></D:propstat></D:response>", "<D:response><D:href>x</D:href><D:propstat><D:prop/>" + there + "</D:propstat>" + gone + "</D:response>",
		"<D:response><D:href>x</D:href><D:propstat><D:prop><D:getetag/></D:prop>" + there + "</D:propstat></D:response>", "<D:response><D:href>x</D:href><D:propstat><D:prop><x/></D:prop>" + there + "</D:propstat></D:response>",
		"<D:response><D:href>x</D:href><D:propstat><D:prop><C:address-data>d</C:address-data><D:getetag>2</D:getetag></D:prop>" + there + "</D:propstat></D:response>",
		"<D:response><D:href>x</D:href><D:propstat><D:prop><D:resourcetype/></D:prop>" + there + "</D:propstat></D:response>",
		"<D:response><D:href>x</D:href><D:propstat><D:prop><D:resourcetype><C:addressbook/><D:collection/></D:resourcetype></D:prop>" + there + "</D:propstat></D:response>",
		"<D:sync-token>t</D:sync-token><D:response><D:href>x</D:href>" + gone + "</D:response>",
	} {
		tellsIs(t, within("D:multistatus", body), api.Told{}, api.ErrBody)
	}
	tellsIs(t, within("C:multistatus", ""), api.Told{}, api.ErrBody)
	tellsIs(t, within("multistatus", ""), api.Told{}, api.ErrBody)
}

// written is a document of these pieces, with what stands between two of them.
func written(ps []api.Piece, between string) string {
	var s strings.Builder
	for i, p := range ps {
		name := strings.TrimPrefix(prefixed(p), "N:")
		switch {
		case i == 0:
			s.WriteString("<" + name + ` xmlns:D="DAV:" xmlns:C="urn:ietf:params:xml:ns:carddav" xmlns:F="f">`)
		case p.Kind == api.Open:
			s.WriteString("<" + name + ">")
		case p.Kind == api.Close:
			s.WriteString("</" + name + ">")
		default:
			s.WriteString(escaped(p.Text))
		}
		s.WriteString(between)
	}
	return s.String()
}

// span is the place behind the end of what begins with the piece i.
func span(ps []api.Piece, i int) int {
	for depth := 0; ; i++ {
		switch ps[i].Kind {
		case api.Open:
			depth++
		case api.Close:
			depth--
		}
		if depth == 0 {
			return i + 1
		}
	}
}

// inserts are what is laid between two pieces to spoil them.
func inserts() [][]api.Piece {
	of := func(body string) []api.Piece {
		ps, e := xml.Parse(within("a", body))
		if e != api.OK {
			panic(body)
		}
		return ps[1 : len(ps)-1]
	}
	all := [][]api.Piece{of("x"), of("1"), of("HTTP/1.1 200 OK"), of("<x>y<D:prop/></x>"), of("<F:x><D:href>z</D:href></F:x>"), of("<D:limit/>"), of("<D:prop><D:getetag/></D:prop>"), of("<D:prop>x</D:prop>"), of("<D:prop><x><y/></x></D:prop>")}
	for _, name := range []string{"allprop", "propname", "prop", "sync-token", "sync-level", "href", "propfind", "response", "propstat", "status", "getetag", "resourcetype", "collection", "multistatus"} {
		all = append(all, of("<D:"+name+"/>"), of("<D:"+name+">1</D:"+name+">"), of("<C:"+name+"/>"), of("<F:"+name+">1</F:"+name+">"), of("<"+name+"/>"))
	}
	for _, name := range []string{"addressbook-multiget", "address-data", "addressbook"} {
		all = append(all, of("<C:"+name+"/>"), of("<C:"+name+">1</C:"+name+">"), of("<D:"+name+"/>"))
	}
	return all
}

// spoilt are the documents that differ from ps by one thing.
func spoilt(ps []api.Piece) [][]api.Piece {
	all := [][]api.Piece{ps}
	add := func(parts ...[]api.Piece) { all = append(all, slices.Concat(parts...)) }
	for i := 1; i < len(ps); i++ {
		for _, in := range inserts() {
			add(ps[:i], in, ps[i:])
		}
	}
	for i, p := range ps {
		if p.Kind == api.Close {
			continue
		}
		j := span(ps, i)
		for _, in := range inserts() {
			last := len(in) - 1
			if p.Kind == api.Open && in[0].Kind == api.Open {
				add(ps[:i], in[:1], ps[i+1:j-1], in[last:], ps[j:])
			}
			if p.Kind == api.Chars {
				add(ps[:i], in, ps[j:])
			}
		}
		if i == 0 {
			continue
		}
		add(ps[:i], ps[j:])
		add(ps[:i], ps[i:j], ps[i:])
		if p.Kind == api.Open {
			add(ps[:i], ps[i+1:j-1], ps[j:])
		}
		rest := slices.Concat(ps[:i], ps[j:])
		for k := 1; k < len(rest); k++ {
			add(rest[:k], ps[i:j], rest[k:])
		}
		for _, text := range []string{" ", " 1", "1\n", "11", "&lt;", "HTTP/1.1 404 Not Found "} {
			if p.Kind == api.Chars {
				add(ps[:i], []api.Piece{{Kind: api.Chars, Text: text}}, ps[j:])
			}
		}
	}
	return all
}

// right are documents that ask or tell something, of all forms.
func right() [][]api.Piece {
	var all [][]api.Piece
	keep := func(text string, e api.Errno) {
		ps, fault := xml.Parse(text)
		if e != api.OK || fault != api.OK {
			panic(text)
		}
		all = append(all, ps)
	}
	props := []api.Prop{etag, data, prop(0, "x")}
	for _, a := range []api.Ask{{Kind: 1}, {Kind: 2}, {Kind: 3}, {Kind: 3, Props: props}, {Kind: 4, Props: props[:1]}, {Kind: 4, Token: "a 1", Props: props}, {Kind: 5}, {Kind: 5, Props: props[:2], Hrefs: []string{"/a/x", "/a/y"}}} {
		keep(PrintAsk(a))
	}
	items := []api.Item{{Href: "/a/x", Tag: "2", Data: "d"}, {Href: "/a/y", Gone: true}, {Href: "/a/", Book: true}, {Href: "/", Tag: "3", Book: true}}
	keep(PrintTold(api.Told{}))
	keep(PrintTold(api.Told{Token: "t"}))
	for i := range items {
		keep(PrintTold(api.Told{Items: items[i : i+1]}))
		keep(PrintTold(api.Told{Items: items[:i+1], Token: "t"}))
	}
	return all
}

func TestSpoilt(t *testing.T) {
	counts := map[[2]api.Errno]int{}
	for _, ps := range right() {
		for i, other := range spoilt(ps) {
			asked, told := should(t, written(other, []string{"", "<!-- x -->"}[i%2]))
			counts[[2]api.Errno{asked, told}]++
		}
	}
	// All of it shows something only if documents of each sort were among them.
	for _, sort := range [][2]api.Errno{{api.OK, api.ErrBody}, {api.ErrBody, api.OK}, {api.ErrBody, api.ErrBody}} {
		if counts[sort] < 100 {
			t.Errorf("errors %v: %d of %v", sort, counts[sort], counts)
		}
	}
}

func TestDrawn(t *testing.T) {
	d := trial.Draws(9)
	base, laid := right(), inserts()
	counts := map[[2]api.Errno]int{}
	for range 40000 {
		ps := base[d.Below(len(base))]
		for range d.Below(4) {
			i := 1 + d.Below(len(ps)-1)
			in := laid[d.Below(len(laid))]
			if j := i; ps[i].Kind != api.Close && d.Below(3) == 0 {
				j = span(ps, i)
				ps = slices.Concat(ps[:i], ps[j:])
				continue
			}
			ps = slices.Concat(ps[:i], in, ps[i:])
		}
		asked, told := should(t, written(ps, []string{"", "\n", " <!-- -->"}[d.Below(3)]))
		counts[[2]api.Errno{asked, told}]++
	}
	for _, sort := range [][2]api.Errno{{api.OK, api.ErrBody}, {api.ErrBody, api.OK}, {api.ErrBody, api.ErrBody}} {
		if counts[sort] < 1000 {
			t.Errorf("errors %v: %d of %v", sort, counts[sort], counts)
		}
	}
}

func TestWants(t *testing.T) {
	asked := []api.Prop{etag, data, prop(0, "getetag"), prop(3, "getetag"), prop(1, "getEtag"), prop(1, ""), prop(-1, "x")}
	for kind := api.AskKind(-2); kind < 10; kind++ {
		for _, props := range [][]api.Prop{nil, {}, {etag}, {data, etag}, {etag, etag, prop(3, "getetag")}, asked} {
			for _, p := range asked {
				among := false
				for _, q := range props {
					among = among || q.Space == p.Space && q.Name == p.Name
				}
				want := kind == 1 || kind >= 3 && kind <= 5 && among
				if got := Wants(api.Ask{Kind: kind, Props: props, Token: "t", Hrefs: []string{"h"}}, p); got != want {
					t.Errorf("Wants of kind %d, %v: %v: %v", kind, props, p, got)
				}
			}
		}
	}
}

// TestNothingShared asks that what is handed in isn't changed, its spare room included, and that answers share no memory.
func TestNothingShared(t *testing.T) {
	props := [4]api.Prop{etag, data, prop(1, "left"), prop(2, "over")}
	hrefs := [3]string{"/a/x", "/a/y", "left"}
	rows := [3]api.Item{{Href: "/a/x", Tag: "2"}, {Href: "/a/y", Gone: true}, {Href: "left"}}
	wasProps, wasHrefs, wasRows := props, hrefs, rows
	a := api.Ask{Kind: 5, Props: props[:2], Hrefs: hrefs[:2]}
	told := api.Told{Items: rows[:2], Token: "t"}
	for range 2 {
		asked, e := PrintAsk(a)
		tells, f := PrintTold(told)
		Wants(a, etag)
		if e != api.OK || f != api.OK || props != wasProps || hrefs != wasHrefs || rows != wasRows {
			t.Fatalf("changed: %v %v %v", props, hrefs, rows)
		}
		got, _ := ParseAsk(asked)
		heard, _ := ParseTold(tells)
		if !sameAsk(got, a) || !sameTold(heard, told) {
			t.Fatalf("read as %v and %v", got, heard)
		}
		// What is done to one answer mustn't be seen in the next one.
		got.Props[0], got.Hrefs[0], heard.Items[0] = data, "other", api.Item{}
		_, _, _ = append(got.Props, data), append(got.Hrefs, "more"), append(heard.Items, api.Item{})
	}
}
