package value

import (
	"reflect"
	"regexp"
	"slices"
	"strings"
	"testing"

	"calepin/api"
	"calepin/trial"
)

// The chapter's form as patterns: an oracle of another make than the package's.
const escapeForm = `\\[\\,;nN]`

var (
	whole     = regexp.MustCompile(`(?s)^(?:` + escapeForm + `|[^\\])*$`)
	nextText  = regexp.MustCompile(`(?s)^(?:` + escapeForm + `|[^\\,])*`)
	nextField = regexp.MustCompile(`(?s)^(?:` + escapeForm + `|[^\\;])*`)
	meaning   = strings.NewReplacer(`\\`, `\`, `\,`, `,`, `\;`, `;`, `\n`, "\n", `\N`, "\n")
)

// parted is the pieces of s that next finds, with one byte between each and the next one.
func parted(s string, next *regexp.Regexp) []string {
	var ps []string
	for {
		p := next.FindString(s)
		ps = append(ps, p)
		if len(p) == len(s) {
			return ps
		}
		s = s[len(p)+1:]
	}
}

// meanings is what each text means.
func meanings(ts []string) []string {
	var ms []string
	for _, t := range ts {
		ms = append(ms, meaning.Replace(t))
	}
	return ms
}

// equal tells whether two lists of lists are the same, nil and empty ones being one.
func equal(a, b [][]string) bool {
	return slices.EqualFunc(a, b, slices.Equal[[]string])
}

// textIs asks that Text answers just this text, or the empty one and this error.
func textIs(t *testing.T, s, want string, fault api.Errno) {
	t.Helper()
	if got, e := Text(s); e != fault || got != want {
		t.Errorf("Text(%q): %q %d, want %q %d", s, got, e, want, fault)
	}
}

// listIs asks that List answers just these texts, or none and this error.
func listIs(t *testing.T, s string, want []string, fault api.Errno) {
	t.Helper()
	if got, e := List(s); e != fault || !slices.Equal(got, want) {
		t.Errorf("List(%q): %q %d, want %q %d", s, got, e, want, fault)
	}
}

// fieldsAre asks that Fields answers just these lists, or none and this error.
func fieldsAre(t *testing.T, s string, want [][]string, fault api.Errno) {
	t.Helper()
	if got, e := Fields(s); e != fault || !equal(got, want) {
		t.Errorf("Fields(%q): %q %d, want %q %d", s, got, e, want, fault)
	}
}

// faulty asks that each of the three answers nothing and ErrForm.
func faulty(t *testing.T, s string) {
	t.Helper()
	textIs(t, s, "", api.ErrForm)
	listIs(t, s, nil, api.ErrForm)
	fieldsAre(t, s, nil, api.ErrForm)
}

// asPatterns asks that each of the three answers what the patterns do.
func asPatterns(t *testing.T, s string) {
	t.Helper()
	if !whole.MatchString(s) {
		faulty(t, s)
		return
	}
	textIs(t, s, meaning.Replace(s), api.OK)
	listIs(t, s, meanings(parted(s, nextText)), api.OK)
	var fs [][]string
	for _, f := range parted(s, nextField) {
		fs = append(fs, meanings(parted(f, nextText)))
	}
	fieldsAre(t, s, fs, api.OK)
}

// byteText is the text of one byte.
func byteText(i int) string {
	return string([]byte{byte(i)})
}

// P4.1: all short texts of the bytes that count, alone and behind the beginnings of values, against the patterns.
func TestReadShortTexts(t *testing.T) {
	trial.Every([]string{`\`, ",", ";", "n", "N", "a"}, 6, func(s string) { asPatterns(t, s) })
	trial.Every([]string{`\`, ",", ";", "n", "\n", "é"}, 4, func(s string) {
		for _, ahead := range []string{"a,b;c", `\\`, `a\,;`, `\`, ";;,"} {
			asPatterns(t, ahead+s)
			asPatterns(t, s+ahead)
		}
	})
}

// P4.1: each byte at each place of a value, against the patterns.
func TestReadBytes(t *testing.T) {
	const s = `Do\,e;Jo\\,A\nnn\N;\;,;`
	trial.Beside(s, func(s string) { asPatterns(t, s) })
	for at := range len(s) + 1 {
		asPatterns(t, s[:at])
		asPatterns(t, s[at:])
	}
}

// P4.1: of all bytes just five may stand behind a \, and each stands for what the chapter says.
func TestEscapes(t *testing.T) {
	stands := map[string]string{`\`: `\`, ",": ",", ";": ";", "n": "\n", "N": "\n"}
	for i := range 256 {
		c := byteText(i)
		want, ok := stands[c]
		for _, x := range [][2]string{{"", ""}, {"a", ""}, {"", "a"}, {"a", "n"}, {"é", "é"}} {
			s := x[0] + `\` + c + x[1]
			if !ok {
				faulty(t, s)
				continue
			}
			m := x[0] + want + x[1]
			textIs(t, s, m, api.OK)
			listIs(t, s, []string{m}, api.OK)
			fieldsAre(t, s, [][]string{{m}}, api.OK)
		}
	}
}

// P4.1: bytes that are no escape stand for themselves, also where they make no character.
func TestTextKeeps(t *testing.T) {
	for _, s := range []string{"", " ", "a", ",", ";", ",;,", "n", "N", "/n", "\n", "\r\n", "\t", "\x00", "\x7f", "\xff", "\xc3", "é漢😀", `"a,b";c:d`, "^n^^", "%5C", "\uff3c", "\u2216"} {
		textIs(t, s, s, api.OK)
	}
}

// P4.1: ordinary texts.
func TestTextReads(t *testing.T) {
	rows := [][2]string{
		{`a\,b\nc`, "a,b\nc"},
		{`a,b;c`, "a,b;c"},
		{`\\n`, `\n`},
		{`\\\n`, "\\\n"},
		{`\\\\`, `\\`},
		{`\\,`, `\,`},
		{`\N\n\n`, "\n\n\n"},
		{`12 High St\; Flat 3\nLeeds`, "12 High St; Flat 3\nLeeds"},
		{`C:\\new\\notes`, `C:\new\notes`},
	}
	for _, r := range rows {
		textIs(t, r[0], r[1], api.OK)
	}
}

// P4.1: lists, their commas escaped or not, and empty texts at each place.
func TestListReads(t *testing.T) {
	rows := []struct {
		s    string
		want []string
	}{
		{`a,b\,c,`, []string{"a", "b,c", ""}},
		{"", []string{""}},
		{"a", []string{"a"}},
		{",", []string{"", ""}},
		{",,a,,", []string{"", "", "a", "", ""}},
		{`\,`, []string{","}},
		{`\\,`, []string{`\`, ""}},
		{`\\\,`, []string{`\,`}},
		{`\\\\,\,`, []string{`\\`, ","}},
		{`\n,\N`, []string{"\n", "\n"}},
		{`a;b,c\;d`, []string{"a;b", "c;d"}},
		{";,;", []string{";", ";"}},
		{"a\nb, c ,\xff", []string{"a\nb", " c ", "\xff"}},
	}
	for _, r := range rows {
		listIs(t, r.s, r.want, api.OK)
	}
}

// P4.1: fields, their semicolons escaped or not, and empty fields at each place.
func TestFieldsRead(t *testing.T) {
	rows := []struct {
		s    string
		want [][]string
	}{
		{"Doe;Jo,Ann;", [][]string{{"Doe"}, {"Jo", "Ann"}, {""}}},
		{"", [][]string{{""}}},
		{"a", [][]string{{"a"}}},
		{";", [][]string{{""}, {""}}},
		{",", [][]string{{"", ""}}},
		{";,;", [][]string{{""}, {"", ""}, {""}}},
		{";;;;", [][]string{{""}, {""}, {""}, {""}, {""}}},
		{`\;`, [][]string{{";"}}},
		{`\\;`, [][]string{{`\`}, {""}}},
		{`\\\;`, [][]string{{`\;`}}},
		{`a\;b\,c;d\\,e`, [][]string{{"a;b,c"}, {`d\`, "e"}}},
		{`\n;\N,x`, [][]string{{"\n"}, {"\n", "x"}}},
		{";;12 High St;Leeds;;LS1;UK", [][]string{{""}, {""}, {"12 High St"}, {"Leeds"}, {""}, {"LS1"}, {"UK"}}},
	}
	for _, r := range rows {
		fieldsAre(t, r.s, r.want, api.OK)
	}
}

// P4.1: one fault, wherever it stands, leaves nothing of the value.
func TestFaults(t *testing.T) {
	for _, s := range []string{`\`, `a\`, `\x`, `\\\`, `\ `, `\"`, `\:`, `\r`, `\t`, `\0`, `\^`, "\\\n", "\\\r", "\\\x00", "\\\xff", `\é`, `\ｎ`, `\A`, `\M`, `\O`, `\m`, `\o`} {
		for _, x := range [][2]string{{"", ""}, {"a,", ""}, {"a;b,c;", ""}, {`\n\,\;\\`, ""}, {"é", ""}} {
			faulty(t, x[0]+s+x[1])
		}
	}
	for _, s := range []string{`\x`, `\ `, "\\\n", `\é`, `\\\:`} {
		for _, x := range [][2]string{{"", ",a"}, {"", ";a,b;c"}, {"a,", ",b"}, {"a;", ";b"}, {"a;b,", ",c;d"}, {"", `\n\\`}} {
			faulty(t, x[0]+s+x[1])
		}
	}
}

// P4.2: each byte, alone and among others.
func TestPutBytes(t *testing.T) {
	puts := map[string]string{`\`: `\\`, ",": `\,`, ";": `\;`, "\n": `\n`}
	for i := range 256 {
		c := byteText(i)
		want, ok := puts[c]
		if !ok {
			want = c
		}
		for _, x := range [][2]string{{"", ""}, {"a", ""}, {"", "n"}, {"é", "N"}} {
			s, w := x[0]+c+x[1], x[0]+want+x[1]
			if got := PutText(s); got != w {
				t.Errorf("PutText(%q): %q, want %q", s, got, w)
			}
			if got := PutList("a", s); got != "a,"+w {
				t.Errorf("PutList(a, %q): %q", s, got)
			}
			if got := PutFields([]string{"a", s}, []string{s}); got != "a,"+w+";"+w {
				t.Errorf("PutFields of %q: %q", s, got)
			}
		}
	}
}

// P4.2: ordinary texts, the empty one, and escapes that are put once more.
func TestPutText(t *testing.T) {
	rows := [][2]string{
		{"", ""},
		{"a,b\nc", `a\,b\nc`},
		{"12 High St; Flat 3", `12 High St\; Flat 3`},
		{`\n`, `\\n`},
		{`\,`, `\\\,`},
		{"\\\n", `\\\n`},
		{`\\`, `\\\\`},
		{",,;;", `\,\,\;\;`},
		{"\r\n\t", "\r\\n\t"},
		{"é漢😀\xff\x00", "é漢😀\xff\x00"},
	}
	for _, r := range rows {
		if got := PutText(r[0]); got != r[1] {
			t.Errorf("PutText(%q): %q, want %q", r[0], got, r[1])
		}
	}
}

// P4.2: lists of each length, of none, and with empty texts.
func TestPutList(t *testing.T) {
	rows := []struct {
		ts   []string
		want string
	}{
		{nil, ""},
		{[]string{}, ""},
		{[]string{""}, ""},
		{[]string{"", ""}, ","},
		{[]string{"a"}, "a"},
		{[]string{"a", "b,c", ""}, `a,b\,c,`},
		{[]string{"", "a;b", "\n", `\`, ","}, `,a\;b,\n,\\,\,`},
	}
	for _, r := range rows {
		if got := PutList(r.ts...); got != r.want {
			t.Errorf("PutList(%q): %q, want %q", r.ts, got, r.want)
		}
	}
}

// P4.2: fields of each number, of none, and without texts.
func TestPutFields(t *testing.T) {
	rows := []struct {
		fs   [][]string
		want string
	}{
		{nil, ""},
		{[][]string{}, ""},
		{[][]string{nil}, ""},
		{[][]string{{}}, ""},
		{[][]string{{""}}, ""},
		{[][]string{nil, {}}, ";"},
		{[][]string{nil, {"a"}, nil}, ";a;"},
		{[][]string{{"", ""}}, ","},
		{[][]string{{"a;"}, {"b", ""}}, `a\;;b,`},
		{[][]string{{"Doe"}, {"Jo", "Ann"}, {""}, {}, {"\n"}}, `Doe;Jo,Ann;;;\n`},
		{[][]string{{`\`, ","}, {";"}}, `\\,\,;\;`},
	}
	for _, r := range rows {
		if got := PutFields(r.fs...); got != r.want {
			t.Errorf("PutFields(%q): %q, want %q", r.fs, got, r.want)
		}
	}
}

// P4.3: what is put is read again: every short text, alone, in lists and in fields.
func TestPutIsRead(t *testing.T) {
	trial.Every([]string{`\`, ",", ";", "\n", "n", "é", "\xff"}, 5, func(s string) {
		textIs(t, PutText(s), s, api.OK)
		for _, ts := range [][]string{{s}, {s, ""}, {"", s}, {s, s}, {"a", s, "b"}} {
			listIs(t, PutList(ts...), ts, api.OK)
			for _, fs := range [][][]string{{ts}, {ts, {""}}, {{""}, ts}, {ts, ts}} {
				fieldsAre(t, PutFields(fs...), fs, api.OK)
			}
		}
	})
}

// P4.3: what is put is read again: drawn texts, lists and fields.
func TestDrawnIsRead(t *testing.T) {
	seed := uint32(1)
	draw := func(n int) int {
		seed = seed*1664525 + 1013904223
		return int(seed>>8) % n
	}
	counted := []string{`\`, ",", ";", "\n", "n", "N"}
	text := func() string {
		var b strings.Builder
		for range draw(12) {
			if draw(2) == 0 {
				b.WriteString(counted[draw(len(counted))])
			} else {
				b.WriteByte(byte(draw(256)))
			}
		}
		return b.String()
	}
	list := func() []string {
		ts := []string{text()}
		for range draw(5) {
			ts = append(ts, text())
		}
		return ts
	}
	for range 5000 {
		s, ts, fs := text(), list(), [][]string{list()}
		for range draw(8) {
			fs = append(fs, list())
		}
		textIs(t, PutText(s), s, api.OK)
		listIs(t, PutList(ts...), ts, api.OK)
		fieldsAre(t, PutFields(fs...), fs, api.OK)
	}
}

// P4.1 to P4.3: long values are read and put whole.
func TestLong(t *testing.T) {
	s := strings.Repeat("a\\,;\né", 20000)
	textIs(t, PutText(s), s, api.OK)
	faulty(t, PutText(s)+`\`)
	ts, fs := make([]string, 70000), make([][]string, 70000)
	for i := range ts {
		fs[i] = []string{""}
	}
	ts[69999], fs[69999] = s, []string{s, s}
	listIs(t, strings.Repeat(",", 69999)+PutText(s), ts, api.OK)
	listIs(t, PutList(ts...), ts, api.OK)
	fieldsAre(t, strings.Repeat(";", 69999)+PutList(s, s), fs, api.OK)
	fieldsAre(t, PutFields(fs...), fs, api.OK)
	fieldsAre(t, PutList(ts...), [][]string{ts}, api.OK)
	faulty(t, strings.Repeat(`\\`, 70000)+`\`)
	textIs(t, strings.Repeat(`\\`, 70000), strings.Repeat(`\`, 70000), api.OK)
}

// Rule 5: what is handed in stays as it is, its spare room too.
func TestLeavesArguments(t *testing.T) {
	texts := []string{"a,", "b;", "spare,", "spare;"}
	fields := [][]string{texts[:2], texts[1:3], {"spare;"}}
	beforeTexts, beforeFields := slices.Clone(texts), [][]string{{"a,", "b;"}, {"b;", "spare,"}, {"spare;"}}
	PutList(texts[:2]...)
	PutFields(fields[:2]...)
	if !slices.Equal(texts, beforeTexts) || !reflect.DeepEqual(fields, beforeFields) {
		t.Errorf("what was handed in has changed: %q %q", texts, fields)
	}
}

// scribble writes over all that the list has room for.
func scribble(ts []string) {
	ts = ts[:cap(ts)]
	for i := range ts {
		ts[i] = "scribbled"
	}
}

// Rule 5: no two lists of one answer share memory, nor do two answers.
func TestAnswersAreNew(t *testing.T) {
	const s = "a,b,c;d,e,f;g;h,i"
	want := [][]string{{"a", "b", "c"}, {"d", "e", "f"}, {"g"}, {"h", "i"}}
	for i := range want {
		first, _ := Fields(s)
		second, _ := Fields(s)
		scribble(first[i])
		for j := range first {
			if j != i && !slices.Equal(first[j], want[j]) {
				t.Errorf("two lists of one answer share: %q", first)
			}
		}
		if !equal(second, want) {
			t.Errorf("two answers share: %q", second)
		}
	}
	first, _ := Fields(s)
	second, _ := Fields(s)
	clear(first[:cap(first)])
	if !equal(second, want) {
		t.Errorf("two answers share: %q", second)
	}
	one, _ := List("a,b,c")
	other, _ := List("a,b,c")
	scribble(one)
	if !slices.Equal(other, []string{"a", "b", "c"}) {
		t.Errorf("two answers share: %q", other)
	}
}
