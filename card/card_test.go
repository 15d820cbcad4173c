package card

import (
	"reflect"
	"slices"
	"sort"
	"strings"
	"testing"

	"calepin/api"
	"calepin/fold"
	"calepin/line"
	"calepin/value"
)

// rows is the text of these rows, each ended by 13 10.
func rows(rs ...string) string {
	return strings.Join(append(rs, ""), "\r\n")
}

// whole is the text of a card with these rows between the frame's.
func whole(rs ...string) string {
	return rows(slices.Concat([]string{"BEGIN:VCARD", "VERSION:4.0"}, rs, []string{"END:VCARD"})...)
}

// of is the card of these lines, as layer 3 reads them.
func of(t *testing.T, rs ...string) api.Card {
	t.Helper()
	var c api.Card
	for _, r := range rs {
		l, e := line.Parse(r)
		if e != api.OK {
			t.Fatalf("no line: %q", r)
		}
		c.Lines = append(c.Lines, l)
	}
	return c
}

// plain is the lines with no list nil.
func plain(ls []api.Line) []api.Line {
	out := []api.Line{}
	for _, l := range ls {
		ps := []api.Param{}
		for _, p := range l.Params {
			ps = append(ps, api.Param{Name: p.Name, Values: append([]string{}, p.Values...)})
		}
		l.Params = ps
		out = append(out, l)
	}
	return out
}

// equal tells whether the lines are the same all through, nil and empty lists being one; it doesn't ask layer 3.
func equal(a, b []api.Line) bool {
	return reflect.DeepEqual(plain(a), plain(b))
}

// parses asks that Parse answers just this card, or the zero one and this error.
func parses(t *testing.T, text string, want api.Card, fault api.Errno) {
	t.Helper()
	got, e := Parse(text)
	if e != fault || !equal(got.Lines, want.Lines) {
		t.Errorf("Parse(%.300q): %.300q %d, want %.300q %d", text, got, e, want, fault)
	}
}

// refused asks that Parse answers nothing and this error.
func refused(t *testing.T, text string, fault api.Errno) {
	t.Helper()
	parses(t, text, api.Card{}, fault)
}

// checked asks that Check answers this error.
func checked(t *testing.T, c api.Card, fault api.Errno) {
	t.Helper()
	if e := Check(c); e != fault {
		t.Errorf("Check(%.300q): %d, want %d", c, e, fault)
	}
}

// canons asks that Canon and Print answer just this card and text.
func canons(t *testing.T, c, canon api.Card, text string) {
	t.Helper()
	if got, e := Canon(c); e != api.OK || !equal(got.Lines, canon.Lines) {
		t.Errorf("Canon(%.300q): %.300q %d, want %.300q", c, got, e, canon)
	}
	if got, e := Print(c); e != api.OK || got != text {
		t.Errorf("Print(%.300q): %.300q %d, want %.300q", c, got, e, text)
	}
}

// unprinted asks that Canon and Print answer nothing and this error.
func unprinted(t *testing.T, c api.Card, fault api.Errno) {
	t.Helper()
	if got, e := Canon(c); e != fault || len(got.Lines) > 0 {
		t.Errorf("Canon(%.300q): %.300q %d, want %d", c, got, e, fault)
	}
	if got, e := Print(c); e != fault || got != "" {
		t.Errorf("Print(%.300q): %.300q %d, want %d", c, got, e, fault)
	}
}

// notRight asks that every call says of these lines that they are no card.
func notRight(t *testing.T, rs ...string) {
	t.Helper()
	refused(t, whole(rs...), api.ErrCard)
	checked(t, of(t, rs...), api.ErrCard)
	unprinted(t, of(t, rs...), api.ErrCard)
}

// isRight asks that these lines are a card, and that its text has just these rows.
func isRight(t *testing.T, in, out []string) {
	t.Helper()
	c := of(t, in...)
	parses(t, whole(in...), c, api.OK)
	checked(t, c, api.OK)
	canons(t, c, of(t, out...), whole(out...))
	back(t, c)
}

// back asks that what is printed of c is read as its canonical lines, which are canonical already.
func back(t *testing.T, c api.Card) {
	t.Helper()
	canon, e := Canon(c)
	text, f := Print(c)
	if e != api.OK || f != api.OK {
		t.Errorf("no way there: %.300q: %d %d", c, e, f)
		return
	}
	parses(t, text, canon, api.OK)
	canons(t, canon, canon, text)
}

// stock is a line of which cards are made here: as it comes in, its canonical form (empty: no card has it), and its name.
type stock struct{ in, out, name string }

// stocks has the names that count and others, in each size of letters, right and wrong.
func stocks() []stock {
	return []stock{
		{"FN:Jo", "FN:Jo", "FN"},
		{`fn;type=x:A,B\N;`, `FN;TYPE=x:A\,B\n\;`, "FN"},
		{"g.Fn:", "G.FN:", "FN"},
		{`fN:a\x`, "", "FN"},
		{"n:a;b,c;;;", "N:a;b,c;;;", "N"},
		{`h.N;SORT-as="a,b":\N;\,;\;;\\;`, `H.N;SORT-AS="a,b":\n;\,;\;;\\;`, "N"},
		{"N:a;b;c;d", "", "N"},
		{"N:a;b;c;d;e;f", "", "N"},
		{"uid:urn:x,y", `UID:urn:x\,y`, "UID"},
		{"Uid:", "", "UID"},
		{"kind:Org", "KIND:Org", "KIND"},
		{"KIND:person", "", "KIND"},
		{`bday:\x,;`, `BDAY:\x,;`, "BDAY"},
		{`REV:1\`, `REV:1\`, "REV"},
		{"tel;Pref=1,\"a;b\":+1\\", "TEL;PREF=1,\"a;b\":+1\\", "TEL"},
		{"x-1.tel:2", "X-1.TEL:2", "TEL"},
		{`note:\Na;b`, `NOTE:\na\;b`, "NOTE"},
		{`Note:\`, "", "NOTE"},
		{`nickname:a;b,c\,`, `NICKNAME:a\;b,c\,`, "NICKNAME"},
		{"CATEGORIES:,", "CATEGORIES:,", "CATEGORIES"},
		{`org:a;b,\c`, "", "ORG"},
		{`Org:\Na`, `ORG:\na`, "ORG"},
		{"adr:;;,x;", "ADR:;;,x;", "ADR"},
		{"begin:vcard", "", "BEGIN"},
		{"End:x", "", "END"},
		{"g.version:4.0", "", "VERSION"},
		{`1:,\,;`, `1:,\,;`, "1"},
		{`-x-fn:\x`, `-X-FN:\x`, "-X-FN"},
	}
}

// asStock asks of the card of these lines what their stock says of it.
func asStock(t *testing.T, ss []stock) {
	t.Helper()
	var in, fns, outs []string
	seen := map[string]int{}
	right := true
	sorted := slices.Clone(ss)
	sort.SliceStable(sorted, func(i, j int) bool { return sorted[i].name < sorted[j].name })
	for _, s := range sorted {
		if s.name == "FN" {
			fns = append(fns, s.out)
		} else {
			outs = append(outs, s.out)
		}
	}
	for _, s := range ss {
		in = append(in, s.in)
		seen[s.name]++
		once := strings.Contains(" N UID KIND BDAY REV ", " "+s.name+" ")
		right = right && s.out != "" && (!once || seen[s.name] == 1)
	}
	if right && len(fns) > 0 {
		isRight(t, in, append(fns, outs...))
	} else {
		notRight(t, in...)
	}
}

// drawer draws numbers, the same at each run.
type drawer uint32

// below draws a number below n.
func (d *drawer) below(n int) int {
	*d = *d*1664525 + 1013904223
	return int(*d>>8) % n
}

// P5.1 to P5.4: all cards of at most three lines of the stock, each order of them.
func TestShortCards(t *testing.T) {
	all := stocks()
	asStock(t, nil)
	for _, a := range all {
		asStock(t, []stock{a})
		for _, b := range all {
			asStock(t, []stock{a, b})
			for _, c := range all {
				asStock(t, []stock{a, b, c})
			}
		}
	}
}

// P5.1 to P5.4: drawn cards of more lines, most of them right.
func TestDrawnCards(t *testing.T) {
	all := stocks()
	good := slices.DeleteFunc(stocks(), func(s stock) bool { return s.out == "" })
	d := drawer(1)
	for range 3000 {
		var ss []stock
		for range d.below(20) {
			s := good[d.below(len(good))]
			twice := slices.ContainsFunc(ss, func(o stock) bool { return o.name == s.name })
			if strings.Contains(" N UID KIND BDAY REV ", " "+s.name+" ") && twice && d.below(50) > 0 {
				continue
			}
			ss = append(ss, s)
		}
		if d.below(10) == 0 {
			ss = append(ss, all[d.below(len(all))])
		}
		asStock(t, ss)
	}
}

// The chapter's examples.
func TestExamples(t *testing.T) {
	c, e := Parse(rows("BEGIN:VCARD", "VERSION:4.0", "tel:1", "fn:A,B", "END:VCARD"))
	if e != api.OK || len(c.Lines) != 2 || c.Lines[0].Name != "tel" || c.Lines[1].Value != "A,B" {
		t.Errorf("%q %d", c, e)
	}
	text, e := Print(c)
	if e != api.OK || text != "BEGIN:VCARD\r\nVERSION:4.0\r\nFN:A\\,B\r\nTEL:1\r\nEND:VCARD\r\n" {
		t.Errorf("%q %d", text, e)
	}
	refused(t, whole("tel:1"), api.ErrCard)
	notRight(t, "FN:x", "N:a;b")
	isRight(t, []string{"N:a;b;c;d;e", "FN:x"}, []string{"FN:x", "N:a;b;c;d;e"})
}

// P5.1: what stands around a card: in any size of letters, and in no other way.
func TestFrame(t *testing.T) {
	c := of(t, "FN:x")
	parses(t, rows("begin:vcard", "vErSiOn:4.0", "FN:x", "End:vCard"), c, api.OK)
	parses(t, "BEGIN:VCARD\nVERSION:4.0\nFN:x\nEND:VCARD\n", c, api.OK)
	parses(t, "BEG\n IN:VCA\r\n\tRD\nVERSION:4\n .\n 0\n \nF\n N:x\nEND:VCARD\n \n", c, api.OK)
	frames := [][3]string{
		{"BEGIN:VCARD ", "VERSION:4.0", "END:VCARD"},
		{"BEGIN: VCARD", "VERSION:4.0", "END:VCARD"},
		{"BEGIN:", "VERSION:4.0", "END:VCARD"},
		{"BEGIN:VCARDS", "VERSION:4.0", "END:VCARD"},
		{"BEGIN:VCALENDAR", "VERSION:4.0", "END:VCARD"},
		{"BEGINS:VCARD", "VERSION:4.0", "END:VCARD"},
		{"g.BEGIN:VCARD", "VERSION:4.0", "END:VCARD"},
		{"BEGIN;a=b:VCARD", "VERSION:4.0", "END:VCARD"},
		{"END:VCARD", "VERSION:4.0", "END:VCARD"},
		{"VERSION:4.0", "BEGIN:VCARD", "END:VCARD"},
		{"VERSION:4.0", "VERSION:4.0", "END:VCARD"},
		{"FN:x", "VERSION:4.0", "END:VCARD"},
		{"BEGIN:VCARD", "VERSION:3.0", "END:VCARD"},
		{"BEGIN:VCARD", "VERSION:4", "END:VCARD"},
		{"BEGIN:VCARD", "VERSION:4.00", "END:VCARD"},
		{"BEGIN:VCARD", "VERSION:", "END:VCARD"},
		{"BEGIN:VCARD", "g.VERSION:4.0", "END:VCARD"},
		{"BEGIN:VCARD", "VERSION;a=b:4.0", "END:VCARD"},
		{"BEGIN:VCARD", "END:VCARD", "END:VCARD"},
		{"BEGIN:VCARD", "BEGIN:VCARD", "END:VCARD"},
		{"BEGIN:VCARD", "FN:x", "END:VCARD"},
		{"BEGIN:VCARD", "VERSION:4.0", "END:VCARD,"},
		{"BEGIN:VCARD", "VERSION:4.0", "END:"},
		{"BEGIN:VCARD", "VERSION:4.0", "g.END:VCARD"},
		{"BEGIN:VCARD", "VERSION:4.0", "END;a=b:VCARD"},
		{"BEGIN:VCARD", "VERSION:4.0", "BEGIN:VCARD"},
		{"BEGIN:VCARD", "VERSION:4.0", "VERSION:4.0"},
		{"BEGIN:VCARD", "VERSION:4.0", "TEL:1"},
		{"END:VCARD", "VERSION:4.0", "BEGIN:VCARD"},
	}
	for _, f := range frames {
		refused(t, rows(f[0], f[1], "FN:x", f[2]), api.ErrCard)
		refused(t, rows(f[0], f[1], f[2]), api.ErrCard)
	}
}

// P5.1: lines that are missing, and some that are too many around a card.
func TestFrameCounts(t *testing.T) {
	const b, v, f, e = "BEGIN:VCARD", "VERSION:4.0", "FN:x", "END:VCARD"
	for _, rs := range [][]string{
		{}, {b}, {v}, {e}, {f}, {b, v}, {b, e}, {v, e}, {b, b}, {e, e}, {b, v, e}, {b, v, f}, {b, f, e}, {v, f, e}, {f, v, e},
		{b, f, v, e}, {f, b, v, e}, {b, v, e, f}, {b, v, f, e, e}, {b, b, v, f, e}, {b, v, v, f, e}, {b, v, f, v, e},
		{b, v, f, e, b, v, f, e}, {b, v, f, e, f, e}, {b, v, f, b, v, f, e, e}, {b, v, f, e, b},
	} {
		text := rows(rs...)
		if len(rs) == 0 {
			text = ""
		}
		refused(t, text, api.ErrCard)
	}
	parses(t, rows(b, v, f, e), of(t, f), api.OK)
}

// P5.1: each error of reading, and which of two is answered.
func TestParseErrors(t *testing.T) {
	long := strings.Repeat("x", api.MaxText)
	faults := []struct {
		text string
		want api.Errno
	}{
		// Too long comes ahead of all others.
		{whole("FN:x", "NOTE:"+long), api.ErrLong},
		{long + "\xff\n", api.ErrLong},
		{long + "x", api.ErrLong},
		{long + "\n", api.ErrLong},
		{long, api.ErrLine},
		{long[1:] + "\n", api.ErrName},
		// No valid text comes ahead of rows that end wrongly.
		{whole("FN:\xff"), api.ErrText},
		{whole("FN:x", "NOTE:\x00"), api.ErrText},
		{whole("FN:\x7f"), api.ErrText},
		{whole("FN:\xc3", " \xa9"), api.ErrText},
		{"\xff", api.ErrText},
		{"\n\xff\n", api.ErrText},
		{":1\n\x01\n", api.ErrText},
		// Rows come ahead of lines.
		{" ", api.ErrLine},
		{"BEGIN:VCARD", api.ErrLine},
		{strings.TrimSuffix(whole("FN:x"), "\n"), api.ErrLine},
		{" " + whole("FN:x"), api.ErrLine},
		{"\t" + whole("FN:x"), api.ErrLine},
		{"\r\n" + whole("FN:x"), api.ErrLine},
		{whole("FN:x", "", "TEL:1"), api.ErrLine},
		{whole("FN:x", "TEL:\r1"), api.ErrLine},
		{whole("FN:x") + "\r\n", api.ErrLine},
		{":1\n\n", api.ErrLine},
		{whole("A") + "B", api.ErrLine},
		// The first line's error comes ahead of the others', and all ahead of a card's.
		{rows(":1"), api.ErrName},
		{rows("A"), api.ErrForm},
		{rows(":1", "A"), api.ErrName},
		{rows("A", ":1"), api.ErrForm},
		{whole("A"), api.ErrForm},
		{whole("A.:1"), api.ErrName},
		{whole("FN:x", "A;B:1", "A;=1:"), api.ErrForm},
		{whole("FN:x", "A;=1:", "A;B:1"), api.ErrName},
		{whole("FN:x", "é:1"), api.ErrName},
		{whole("FN:x", strings.Repeat("A", 65)+":1"), api.ErrName},
		{whole("FN:x", "A;B=\"1:"), api.ErrForm},
		{whole("TEL", "N:a"), api.ErrForm},
		{whole("N:a", "TEL"), api.ErrForm},
		{rows("BEGIN", "VERSION:4.0", "FN:x", "END:VCARD"), api.ErrForm},
		{rows("BEGIN:VCARD", ":4.0", "FN:x", "END:VCARD"), api.ErrName},
		{rows("BEGIN:VCARD", "VERSION:4.0", "FN:x", "END"), api.ErrForm},
		{rows("BEGIN:VCARD", "VERSION:3.0", "FN:x", "END"), api.ErrForm},
		{rows("BEGIN:VCARD", "VERSION:4.0", "FN:\\x", "END:VCARD", "A"), api.ErrForm},
	}
	for _, r := range faults {
		refused(t, r.text, r.want)
	}
}

// filled is rows of an own text with just n bytes, which its lines alone make, when frame and FN:Jo stand around them.
func filled(n int) []string {
	// The frame's bytes with their ends are 37, those of FN:Jo 7.
	n -= 37 + 7
	rs := []string{"FN:Jo"}
	for n > 0 {
		size := 64
		if n < 2*size {
			size = n
		}
		// The name, the colon and the end are four bytes of it.
		most := min(size-4, 70)
		rs = append(rs, "X:"+strings.Repeat("a", most))
		n -= most + 4
	}
	return rs
}

// P5.1, P5.2: a text of just MaxText bytes is no longer than may be; one of a byte more is.
func TestLongest(t *testing.T) {
	most, over := filled(api.MaxText), filled(api.MaxText+1)
	if n, m := len(whole(most...)), len(whole(over...)); n != api.MaxText || m != api.MaxText+1 {
		t.Fatalf("texts of %d and %d bytes", n, m)
	}
	isRight(t, most, most)
	refused(t, whole(over...), api.ErrLong)
	checked(t, of(t, over...), api.OK)
	unprinted(t, of(t, over...), api.ErrLong)
	unprinted(t, of(t, append(over, "N:a")...), api.ErrCard)
	bad := of(t, append(over, "X:1")...)
	bad.Lines[len(bad.Lines)-1].Name = ""
	unprinted(t, bad, api.ErrName)
}

// P5.2: the text counts as it is printed, not as it came.
func TestGrows(t *testing.T) {
	// Each comma is put as two bytes, and rows ended by 10 alone are ended by 13 10.
	for _, text := range []string{
		whole("FN:x", "NOTE:"+strings.Repeat(",", 40000)),
		strings.ReplaceAll(whole(filled(api.MaxText+1)...), "\r", ""),
		whole("FN:x", "NOTE:"+strings.Repeat("x", api.MaxText-100)),
	} {
		c, e := Parse(text)
		if e != api.OK {
			t.Fatalf("%.100q: %d", text, e)
		}
		checked(t, c, api.OK)
		unprinted(t, c, api.ErrLong)
	}
	// And what comes in too many rows may be printed as less.
	long := "FN:x\r\nNOTE:x" + strings.Repeat("\r\n x", 16000)
	c, e := Parse(whole(long))
	if e != api.OK {
		t.Fatalf("%d", e)
	}
	back(t, c)
	back(t, of(t, "FN:x", "NOTE:"+strings.Repeat(",", 30000)))
}

// P5.1: lines are read as they stand, in their order, unfolded.
func TestParseKeeps(t *testing.T) {
	text := whole("tel;Type=\"a,", "\tb\",c:+1", " 2", "  3", "x.Fn:A\\", " ,B", "n:;;;;", "fn:")
	want := api.Card{Lines: []api.Line{
		{Name: "tel", Params: []api.Param{{Name: "Type", Values: []string{"a,b", "c"}}}, Value: "+12 3"},
		{Group: "x", Name: "Fn", Value: `A\,B`},
		{Name: "n", Value: ";;;;"},
		{Name: "fn"},
	}}
	parses(t, text, want, api.OK)
}

// P5.1, P5.2: lines that no card has, and those of which it has one, whatever the size of letters and the group.
func TestCounts(t *testing.T) {
	values := map[string]string{"N": "a;;;;", "UID": "a", "KIND": "org", "BDAY": "a", "REV": "a", "FN": "a"}
	for _, name := range []string{"BEGIN", "END", "VERSION", "N", "UID", "KIND", "BDAY", "REV", "FN", "TEL", "NOTE", "ORG", "ADR", "NICKNAME", "CATEGORIES", "BEGINS", "EN", "FNS", "X-UID", "ND"} {
		v := values[name]
		small := strings.ToLower(name)
		mixed := small[:1] + name[1:]
		never := strings.Contains(" BEGIN END VERSION ", " "+name+" ")
		once := strings.Contains(" N UID KIND BDAY REV ", " "+name+" ")
		for _, a := range []string{name, small, mixed, "g." + name, small + ";a=b"} {
			one := []string{"FN:x", a + ":" + v}
			if never {
				notRight(t, one...)
			} else {
				checked(t, of(t, one...), api.OK)
				parses(t, whole(one...), of(t, one...), api.OK)
			}
			for _, b := range []string{name, small, mixed, "h." + small} {
				two := []string{a + ":" + v, "FN:x", b + ":" + v}
				if never || once {
					notRight(t, two...)
				} else {
					checked(t, of(t, two...), api.OK)
					parses(t, whole(two...), of(t, two...), api.OK)
				}
			}
		}
	}
}

// P5.1, P5.2: one line at least is named FN; nothing else is asked.
func TestNeedsName(t *testing.T) {
	checked(t, api.Card{}, api.ErrCard)
	checked(t, api.Card{Lines: []api.Line{}}, api.ErrCard)
	unprinted(t, api.Card{}, api.ErrCard)
	notRight(t, "N:Doe;Jo;;;", "TEL:1")
	notRight(t, "FNX:x")
	notRight(t, "FN.X:x")
	notRight(t, "X;FN=x:FN:x")
	for _, s := range []string{"FN:", "fn:x", "Fn:x", "g.fN:x", "FN;a=b:x"} {
		checked(t, of(t, s), api.OK)
		checked(t, of(t, "TEL:1", s, "TEL:2"), api.OK)
		checked(t, of(t, s, s, s), api.OK)
	}
}

// P5.1, P5.2: N has five fields, however its marks are escaped.
func TestNames(t *testing.T) {
	for v, right := range map[string]bool{
		"": false, "a": false, ";": false, ";;;": false, ";;;;": true, ";;;;;": false, ";;;;;;;;;": false,
		"a;b;c;d;e": true, "a,b;c,,;,;d;e": true, `a\;b;c;d;e`: false, `a\;b;c;d;e;f`: true,
		`\;\;\;\;`: false, `\\;\\;\\;\\;\\`: true, `a;b;c;d;e\`: false, `a;b;c;d;\x`: false, "a,b,c,d,e": false,
	} {
		for _, name := range []string{"N", "n", "g.N", "n;a=b"} {
			rs := []string{"FN:x", name + ":" + v}
			if right {
				parses(t, whole(rs...), of(t, rs...), api.OK)
				checked(t, of(t, rs...), api.OK)
			} else {
				notRight(t, rs...)
			}
		}
	}
	// Fields of other names may be as many as they like.
	for _, name := range []string{"ORG", "ADR"} {
		for n := range 10 {
			checked(t, of(t, "FN:x", name+":"+strings.Repeat(";", n)), api.OK)
		}
	}
}

// P5.1, P5.2: what KIND's and UID's values may be.
func TestKindsAndIds(t *testing.T) {
	for _, s := range []string{"individual", "group", "org", "location", "INDIVIDUAL", "Group", "oRG", "LocatioN"} {
		isRight(t, []string{"kind;a=b:" + s, "FN:x"}, []string{"FN:x", "KIND;A=b:" + s})
	}
	for _, s := range []string{"", "x", " org", "org ", "organization", "or", "org,group", `or\g`, `\n`, "individuals", "location;", "thing", "application", "device", "ORG\u200b"} {
		notRight(t, "FN:x", "KIND:"+s)
		notRight(t, "g.kind;a=b:"+s, "FN:x")
	}
	for _, s := range []string{"x", " ", `\n`, `\,`, ",", ";", "urn:uuid:1"} {
		checked(t, of(t, "FN:x", "UID:"+s), api.OK)
	}
	for _, s := range []string{"UID:", "uid:", "g.Uid;a=b:", `UID:\`, `UID:\a`} {
		notRight(t, "FN:x", s)
	}
}

// P5.1, P5.2: a fault counts in the values of eight names alone.
func TestFaults(t *testing.T) {
	for _, fault := range []string{`\`, `a\`, `\x`, `\ `, `\:`, `,\a,`, `;\a;`, `\\\`, `\"`, `\é`} {
		for _, name := range []string{"FN", "NOTE", "UID", "CATEGORIES", "NICKNAME", "ORG", "ADR", "note", "g.Org", "adr;a=b"} {
			notRight(t, "FN:x", name+":"+fault, "TEL:1")
			notRight(t, name+":"+fault, "FN:x")
		}
		notRight(t, "FN:x", "N:a;b;c;d;"+fault)
		for _, name := range []string{"BDAY", "REV", "TEL", "EMAIL", "TITLE", "X-NOTE", "FNS", "NOTES", "A"} {
			isRight(t, []string{name + ":" + fault, "FN:x"}, []string{"FN:x", name + ":" + fault})
		}
		isRight(t, []string{"FN;note=\"" + strings.ReplaceAll(fault, `"`, "") + "\":x"}, []string{"FN;NOTE=" + quoted(strings.ReplaceAll(fault, `"`, "")) + ":x"})
	}
}

// quoted is a parameter's value as layer 3 writes it, without ^ in it.
func quoted(v string) string {
	if strings.ContainsAny(v, ",;:") {
		return `"` + v + `"`
	}
	return v
}

// P5.2: the error of the first line that can't be printed, ahead of what else is wrong with the card.
func TestCheckErrors(t *testing.T) {
	fn := api.Line{Name: "FN", Value: "x"}
	name, group := api.Line{Value: "1"}, api.Line{Group: "a.b", Name: "A"}
	form := api.Line{Name: "A", Params: []api.Param{{Name: "B"}}}
	text, feed := api.Line{Name: "A", Value: "\xff"}, api.Line{Name: "FN", Value: "a\nb"}
	odd := api.Line{Name: "A", Params: []api.Param{{Name: "B", Values: []string{"\r"}}}}
	wrong, begin := api.Line{Name: "N", Value: "a"}, api.Line{Name: "BEGIN", Value: "VCARD"}
	all := []struct {
		l    api.Line
		want api.Errno
	}{{name, api.ErrName}, {group, api.ErrName}, {form, api.ErrForm}, {text, api.ErrText}, {feed, api.ErrText}, {odd, api.ErrText}}
	for _, a := range all {
		for _, c := range [][]api.Line{{a.l}, {a.l, fn}, {fn, a.l}, {wrong, a.l}, {begin, wrong, a.l, fn}, {a.l, wrong}} {
			checked(t, api.Card{Lines: c}, a.want)
			unprinted(t, api.Card{Lines: c}, a.want)
		}
		for _, b := range all {
			c := api.Card{Lines: []api.Line{fn, a.l, b.l, wrong}}
			checked(t, c, a.want)
			unprinted(t, c, a.want)
		}
	}
}

// P5.2: texts put anew, other values as they stand; names in great letters, parameters' values as they are meant.
func TestCanon(t *testing.T) {
	const v = `a\Nb,c;\\d\,\;`
	for name, want := range map[string]string{
		"FN": `a\nb\,c\;\\d\,\;`, "NOTE": `a\nb\,c\;\\d\,\;`, "UID": `a\nb\,c\;\\d\,\;`,
		"CATEGORIES": `a\nb,c\;\\d\,\;`, "NICKNAME": `a\nb,c\;\\d\,\;`,
		"ORG": `a\nb,c;\\d\,\;`, "ADR": `a\nb,c;\\d\,\;`,
		"TEL": v, "BDAY": v, "REV": v, "X-N": v, "NN": v, "ORGS": v, "TITLE": v,
	} {
		for _, n := range []string{name, strings.ToLower(name)} {
			in, out := n+":"+v, name+":"+want
			if name == "FN" {
				isRight(t, []string{in}, []string{out})
				continue
			}
			isRight(t, []string{in, "fn:x"}, []string{"FN:x", out})
		}
	}
	isRight(t, []string{"fn:", `n:a,\N;;\,;\\;`}, []string{"FN:", `N:a,\n;;\,;\\;`})
	isRight(t, []string{`it1.fn;Type="a,b",^n^^^'^x,"c";pref="1":x`}, []string{`IT1.FN;TYPE="a,b",^n^^^'^^x,c;PREF=1:x`})
}

// P5.2: FN ahead of all, then by name, byte by byte, neither group nor value asked; those of one name stay in order.
func TestOrder(t *testing.T) {
	in := []string{
		"z:1", "a-:1", "TEL:2", "b.tel:1", "FN:2", "note:x", "a.FN:1", "A:1", "-:1", "0:1", "AB:1", "a0:1", "fn:2", "tel;b=c:3", "adr:;", "TEL:0", "a.z:0", "fm:1", "Categories:b", "FO:1",
	}
	out := []string{
		"FN:2", "A.FN:1", "FN:2", "-:1", "0:1", "A:1", "A-:1", "A0:1", "AB:1", "ADR:;", "CATEGORIES:b", "FM:1", "FO:1", "NOTE:x", "TEL:2", "B.TEL:1", "TEL;B=c:3", "TEL:0", "Z:1", "A.Z:0",
	}
	isRight(t, in, out)
	// Also of so many that a sort that doesn't keep the order would lose it.
	in, out = nil, nil
	for i := range 100 {
		for _, name := range []string{"tel", "Email", "fn", "TEL"} {
			in = append(in, name+":"+strings.Repeat("x", i%7)+string(rune('a'+i%26)))
		}
	}
	for _, name := range []string{"FN", "EMAIL", "TEL"} {
		for _, s := range in {
			if n, v, _ := strings.Cut(s, ":"); strings.ToUpper(n) == name {
				out = append(out, name+":"+v)
			}
		}
	}
	isRight(t, in, out)
}

// P5.2: lines of more than 75 bytes are folded, and none within a character.
func TestFolds(t *testing.T) {
	c := of(t, "FN:x", "NOTE:"+strings.Repeat("a", 70), "note:"+strings.Repeat("b", 71), "NOTE:"+strings.Repeat("é", 100))
	want := whole("FN:x", "NOTE:"+strings.Repeat("a", 70), "NOTE:"+strings.Repeat("b", 70), " b",
		"NOTE:"+strings.Repeat("é", 35), " "+strings.Repeat("é", 37), " "+strings.Repeat("é", 28))
	if got, e := Print(c); e != api.OK || got != want {
		t.Errorf("%q %d", got, e)
	}
	back(t, c)
}

// P5.2: a card of lines made by hand is printed as one that was read.
func TestPrintsMade(t *testing.T) {
	c := api.Card{Lines: []api.Line{
		{Name: "tel", Params: []api.Param{{Name: "x", Values: []string{"\n", "^\"", "a;b", ""}}}, Value: " 1\t"},
		{Name: "Fn", Params: []api.Param{}, Value: `a\nb`},
		{Group: "g", Name: "org", Params: nil, Value: ",;é"},
	}}
	want := whole(`FN:a\nb`, `G.ORG:,;é`, `TEL;X=^n,^^^',"a;b",:`+" 1\t")
	if got, e := Print(c); e != api.OK || got != want {
		t.Errorf("%q %d", got, e)
	}
	back(t, c)
}

// P5.3: the lines of a name, as they stand, in order.
func TestFind(t *testing.T) {
	c := of(t, "tel:1", "FN:x", "g.TEL;type=a,b:2", "x-tel:3", "Tel:1", "tels:4", "te:5", "note:tel")
	tels := of(t, "tel:1", "g.TEL;type=a,b:2", "Tel:1").Lines
	for _, name := range []string{"TEL", "tel", "tEl"} {
		if got := Find(c, name); !equal(got, tels) {
			t.Errorf("Find of %q: %q", name, got)
		}
	}
	if got := Find(c, "fn"); !equal(got, c.Lines[1:2]) {
		t.Errorf("Find of fn: %q", got)
	}
	for _, name := range []string{"", "g.TEL", "g", "type", "tel:1", " tel", "tel ", "t", "ＴＥＬ", "téL", "\xff", "N"} {
		if got := Find(c, name); len(got) != 0 {
			t.Errorf("Find of %q: %q", name, got)
		}
	}
}

// P5.3: Find asks neither that the card is right, nor that names are names.
func TestFindAnywhere(t *testing.T) {
	c := api.Card{Lines: []api.Line{{Value: "1"}, {Name: "Ab é\n\xff"}, {Name: "BEGIN"}, {Value: "2", Group: "a.b", Params: []api.Param{{Values: []string{"\r"}}}}, {Name: "K"}}}
	finds := []struct {
		name string
		want []api.Line
	}{
		{"", []api.Line{c.Lines[0], c.Lines[3]}},
		{"aB é\n\xff", c.Lines[1:2]},
		{"ab É\n\xff", nil},
		{"begin", c.Lines[2:3]},
		{"k", c.Lines[4:]},
		{"\u212a", nil},
	}
	for _, r := range finds {
		if got := Find(c, r.name); !equal(got, r.want) {
			t.Errorf("Find of %q: %q, want %q", r.name, got, r.want)
		}
	}
	if got := Find(api.Card{}, ""); len(got) != 0 {
		t.Errorf("Find in nothing: %q", got)
	}
}

// P5.4: cards of drawn texts, lists, fields, parameters and names come back.
func TestDrawnComesBack(t *testing.T) {
	d := drawer(7)
	pieces := []string{`\`, ",", ";", ":", "\n", "n", "N", " ", "\t", "^", "'", `"`, "=", ".", "é", "漢", "😀", "abc", "\u0080", strings.Repeat("y", 40)}
	text := func() string {
		var b strings.Builder
		for range d.below(16) {
			b.WriteString(pieces[d.below(len(pieces))])
		}
		return b.String()
	}
	list := func() []string {
		ts := []string{text()}
		for range d.below(4) {
			ts = append(ts, text())
		}
		return ts
	}
	fields := func(n int) (fs [][]string) {
		for range n {
			fs = append(fs, list())
		}
		return fs
	}
	names := []string{"FN", "fn", "Note", "UID", "CATEGORIES", "nickname", "n", "ORG", "Adr", "tel", "X-a", "BDAY"}
	for range 3000 {
		c := api.Card{Lines: []api.Line{{Name: "FN", Value: value.PutText(text())}}}
		for _, name := range names {
			if d.below(3) > 0 {
				continue
			}
			l := api.Line{Name: name, Value: strings.ReplaceAll(text(), "\n", "")}
			switch strings.ToUpper(name) {
			case "FN", "NOTE":
				l.Value = value.PutText(text())
			case "UID":
				l.Value = value.PutText("x" + text())
			case "CATEGORIES", "NICKNAME":
				l.Value = value.PutList(list()...)
			case "N":
				l.Value = value.PutFields(fields(5)...)
			case "ORG", "ADR":
				l.Value = value.PutFields(fields(1 + d.below(7))...)
			}
			for range d.below(3) {
				l.Params = append(l.Params, api.Param{Name: "a-" + name, Values: list()})
			}
			if d.below(3) == 0 {
				l.Group = "g"
			}
			c.Lines = append(c.Lines, l)
		}
		checked(t, c, api.OK)
		back(t, c)
		for _, name := range names {
			sameMeaning(t, c, name)
		}
	}
}

// sameMeaning asks that the canonical lines of a name mean what the card's lines do.
func sameMeaning(t *testing.T, c api.Card, name string) {
	t.Helper()
	canon, _ := Canon(c)
	before, behind := Find(c, name), Find(canon, strings.ToUpper(name))
	if len(before) != len(behind) {
		t.Errorf("%q: %q, %q", name, before, behind)
		return
	}
	for i, b := range before {
		a, e := anyFields(b)
		x, f := anyFields(behind[i])
		if e != f || !reflect.DeepEqual(a, x) {
			t.Errorf("%q means %q, %q means %q", b, a, behind[i], x)
		}
	}
}

// anyFields is what a line's value means, as fields.
func anyFields(l api.Line) ([][]string, api.Errno) {
	switch strings.ToUpper(l.Name) {
	case "FN", "NOTE", "UID":
		s, e := value.Text(l.Value)
		return [][]string{{s}}, e
	case "CATEGORIES", "NICKNAME":
		ts, e := value.List(l.Value)
		return [][]string{ts}, e
	case "N", "ORG", "ADR":
		return value.Fields(l.Value)
	}
	return [][]string{{l.Value}}, api.OK
}

// P5.1: no text makes Parse panic or answer a card that Check refuses; what it reads are just the lines.
func TestBrokenTexts(t *testing.T) {
	d := drawer(3)
	text := whole("FN;x=\"a,b\",c:Jo\\,", " Doe", "g.N:Doe;Jo;;;", "uid:1", "TEL:+1", "kind:org")
	bits := []string{"", "\n", "\r", "\r\n", " ", "\r\n ", ":", ";", "\\", "\"", "é", "\xff", "N:", "FN:", "END:VCARD\r\n", "BEGIN:VCARD\r\n", ","}
	for range 20000 {
		s := text
		for range 1 + d.below(3) {
			at := d.below(len(s) + 1)
			to := min(len(s), at+d.below(3))
			s = s[:at] + bits[d.below(len(bits))] + s[to:]
		}
		c, e := Parse(s)
		if e != api.OK {
			if len(c.Lines) > 0 {
				t.Errorf("Parse(%q): %q beside %d", s, c, e)
			}
			continue
		}
		checked(t, c, api.OK)
		back(t, c)
		ls, e := fold.Unfold(s)
		if e != api.OK || len(ls) != len(c.Lines)+3 {
			t.Fatalf("Parse(%q): %q", s, c)
		}
		parses(t, s, of(t, ls[2:len(ls)-1]...), api.OK)
	}
}

// spared is a card whose lists all have spare room, with something in it.
func spared() api.Card {
	values := []string{"a", "b", "spare"}[:2]
	params := []api.Param{{Name: "x", Values: values}, {Name: "y", Values: []string{"c", "spare"}[:1]}, {Name: "spare", Values: []string{"spare"}}}[:2]
	lines := []api.Line{{Name: "tel", Params: params, Value: "1"}, {Name: "fn", Params: []api.Param{{Name: "z", Values: []string{"d"}}}, Value: "A,B"}, {Name: "spare", Value: "spare"}}
	return api.Card{Lines: lines[:2]}
}

// roomy is the card with all that its lists have room for.
func roomy(c api.Card) []api.Line {
	ls := slices.Clone(c.Lines[:cap(c.Lines)])
	for i := range ls {
		ls[i].Params = slices.Clone(ls[i].Params[:cap(ls[i].Params)])
		for j, p := range ls[i].Params {
			ls[i].Params[j].Values = slices.Clone(p.Values[:cap(p.Values)])
		}
	}
	return ls
}

// Rule 5: what is handed in stays as it is, its spare room too.
func TestLeavesArguments(t *testing.T) {
	c := spared()
	Check(c)
	Canon(c)
	Print(c)
	Find(c, "tel")
	Find(c, "FN")
	if !reflect.DeepEqual(roomy(c), roomy(spared())) {
		t.Errorf("what was handed in has changed: %q", roomy(c))
	}
}

// scribble writes over all that the lines have room for.
func scribble(ls []api.Line) {
	ls = ls[:cap(ls)]
	for i := range ls {
		ps := ls[i].Params[:cap(ls[i].Params)]
		for j := range ps {
			vs := ps[j].Values[:cap(ps[j].Values)]
			for k := range vs {
				vs[k] = "scribbled"
			}
			ps[j] = api.Param{Name: "scribbled"}
		}
		ls[i] = api.Line{Name: "scribbled"}
	}
}

// Rule 5: answers are new memory: none shares any with an argument or another answer.
func TestAnswersAreNew(t *testing.T) {
	text, err := Print(spared())
	if err != api.OK {
		t.Fatal(err)
	}
	calls := map[string]func(c api.Card) []api.Line{
		"Canon": func(c api.Card) []api.Line { got, _ := Canon(c); return got.Lines },
		"Find":  func(c api.Card) []api.Line { return Find(c, "tel") },
		"Parse": func(c api.Card) []api.Line { got, _ := Parse(text); return got.Lines },
	}
	for name, call := range calls {
		c := spared()
		first, second := call(c), call(c)
		want := plain(first)
		if len(want) == 0 {
			t.Errorf("%s answers nothing", name)
		}
		scribble(first)
		if !reflect.DeepEqual(roomy(c), roomy(spared())) {
			t.Errorf("%s: the answer shares with the argument", name)
		}
		if !equal(second, want) || !equal(call(c), want) {
			t.Errorf("%s: two answers share", name)
		}
	}
}

// Rule 5: no two lists of one answer share memory, even where those of the argument do.
func TestListsAreApart(t *testing.T) {
	values := []string{"a", "b"}
	params := []api.Param{{Name: "X", Values: values}, {Name: "Y", Values: values}}
	c := api.Card{Lines: []api.Line{{Name: "FN", Params: params}, {Name: "FN", Params: params}}}
	canon, _ := Canon(c)
	read, _ := Parse(whole("FN;X=a,b;Y=a,b:", "FN;X=a,b;Y=a,b:"))
	for _, ls := range [][]api.Line{canon.Lines, Find(c, "fn"), read.Lines} {
		if !equal(ls, c.Lines) {
			t.Fatalf("%q", ls)
		}
		vs := ls[0].Params[0].Values[:cap(ls[0].Params[0].Values)]
		for i := range vs {
			vs[i] = "scribbled"
		}
		if ls[0].Params[1].Values[0] != "a" || ls[1].Params[0].Values[0] != "a" {
			t.Errorf("two lists share: %q", ls)
		}
		scribble(ls[:1:1])
		if !equal(ls[1:], c.Lines[1:]) {
			t.Errorf("two lists share: %q", ls)
		}
	}
}
