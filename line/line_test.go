package line

import (
	"reflect"
	"regexp"
	"slices"
	"strings"
	"testing"

	"calepin/api"
	"calepin/char"
	"calepin/trial"
)

// The chapter's form as patterns: an oracle of another make than the package's.
const (
	nameForm  = `[A-Za-z0-9-]{1,64}`
	valueForm = `(?:"[^"]*"|[^",;:]*)`
	paramForm = `(?:;` + nameForm + `=` + valueForm + `(?:,` + valueForm + `)*)`
)

var (
	whole = regexp.MustCompile(`^(?:(` + nameForm + `)\.)?(` + nameForm + `)(` + paramForm + `*):(.*)$`)
	// From the front up to where a name must stand, and there is none.
	nameless = regexp.MustCompile(`^(?:` + nameForm + `\.)?(?:` + nameForm + paramForm + `*;)?(?:$|[^A-Za-z0-9-]|[A-Za-z0-9-]{65})`)
	param    = regexp.MustCompile(`;(` + nameForm + `)=(` + valueForm + `(?:,` + valueForm + `)*)`)
	next     = regexp.MustCompile(`^` + valueForm)
)

// parsed tells by the patterns what Parse must answer.
func parsed(s string) (api.Line, api.Errno) {
	if !char.Valid(s) || strings.ContainsAny(s, "\r\n") {
		return api.Line{}, api.ErrText
	}
	if nameless.MatchString(s) {
		return api.Line{}, api.ErrName
	}
	m := whole.FindStringSubmatch(s)
	if m == nil {
		return api.Line{}, api.ErrForm
	}
	l := api.Line{Group: m[1], Name: m[2], Value: m[4]}
	for _, p := range param.FindAllStringSubmatch(m[3], -1) {
		l.Params = append(l.Params, api.Param{Name: p[1], Values: valuesOf(p[2])})
	}
	return l, api.OK
}

// valuesOf is what the values of a parameter mean, with the commas between them.
func valuesOf(s string) []string {
	means := strings.NewReplacer("^n", "\n", "^^", "^", "^'", `"`)
	var vs []string
	for {
		v := next.FindString(s)
		vs = append(vs, means.Replace(strings.Trim(v, `"`)))
		if len(s) == len(v) {
			return vs
		}
		s = s[len(v)+1:]
	}
}

// equal tells whether two lines are the same all through, nil and empty lists being one; it doesn't ask the package.
func equal(a, b api.Line) bool {
	for _, l := range []*api.Line{&a, &b} {
		l.Params = append([]api.Param{}, l.Params...)
		for i := range l.Params {
			l.Params[i].Values = append([]string{}, l.Params[i].Values...)
		}
	}
	return reflect.DeepEqual(a, b)
}

// parses asks that Parse answers just this line, or the zero line and this error.
func parses(t *testing.T, s string, want api.Line, fault api.Errno) {
	t.Helper()
	got, e := Parse(s)
	if e != fault || !equal(got, want) {
		t.Errorf("Parse(%q): %q %d, want %q %d", s, got, e, want, fault)
	}
}

// asPatterns asks that Parse answers what the patterns do.
func asPatterns(t *testing.T, s string) {
	t.Helper()
	want, fault := parsed(s)
	parses(t, s, want, fault)
}

// with is a line with the name A, the value 1 and these parameters.
func with(ps ...api.Param) api.Line {
	return api.Line{Name: "A", Params: ps, Value: "1"}
}

// par is a parameter.
func par(name string, values ...string) api.Param {
	return api.Param{Name: name, Values: values}
}

// named is a line of these names with the value 1: its group, its own, and its parameters', each with one value.
func named(group, name string, params ...string) api.Line {
	l := api.Line{Group: group, Name: name, Value: "1"}
	for _, p := range params {
		l.Params = append(l.Params, par(p, "x"))
	}
	return l
}

// P3.1: lengths around the bounds, and each byte alone, at the beginning, within and at the end of a name.
func TestName(t *testing.T) {
	a := strings.Repeat("a", 200)
	for n := 0; n <= 200; n++ {
		if want := n >= 1 && n <= 64; Name(a[:n]) != want {
			t.Errorf("a name of %d letters: want %v", n, want)
		}
	}
	const may = "abcdefghijklmnopqrstuvwxyzABCDEFGHIJKLMNOPQRSTUVWXYZ0123456789-"
	for i := 0; i < 256; i++ {
		c := string([]byte{byte(i)})
		want := strings.Contains(may, c)
		for _, s := range []string{c, c + "a", "a" + c, "a" + c + "a", a[:63] + c, c + a[:63]} {
			if Name(s) != want {
				t.Errorf("Name(%q): want %v", s, want)
			}
		}
	}
}

// P3.1: ordinary names, and texts that are none.
func TestNameTexts(t *testing.T) {
	for _, s := range []string{"TEL", "tel", "X-Abc-1", "-", "--", "0", "9", "a", "Z", strings.Repeat("-9zZ", 16)} {
		if !Name(s) {
			t.Errorf("%q is no name", s)
		}
	}
	for _, s := range []string{"", " ", "a b", " a", "a ", "a.b", "a_b", "é", "aé", "\u212a", "\u017f", "\uff21", "\u0661", "\u2010", "a\x00", "\xff", "a\n", strings.Repeat("a", 64) + " ", strings.Repeat("é", 64)} {
		if Name(s) {
			t.Errorf("%q is a name", s)
		}
	}
}

// P3.1: all short texts of the bytes that count, alone and behind the beginnings of lines, against the patterns.
func TestParseShortTexts(t *testing.T) {
	pieces := []string{"A", ".", ";", "=", ",", ":", `"`, "^", " "}
	trial.Every(pieces, 5, func(s string) {
		for _, ahead := range []string{"", "a.", "A;B=", `A;B="`, "A;B=1,", "g.A;B=1;C="} {
			asPatterns(t, ahead+s)
		}
	})
	trial.Every([]string{"^", "n", "'", `"`, ",", ":"}, 6, func(s string) {
		asPatterns(t, "A;B="+s+":1")
		asPatterns(t, `A;B="`+s+`":1`)
	})
	trial.Every([]string{"A", ":", "\n", "\r", "\x00", "\xff", "\t", "é"}, 5, func(s string) { asPatterns(t, s) })
}

// P3.1: each byte at each place of a line, against the patterns.
func TestParseBytes(t *testing.T) {
	const s = `g.AB;C=x,"y";D-1=^n,z^:v`
	trial.Beside(s, func(s string) { asPatterns(t, s) })
	for at := 0; at <= len(s); at++ {
		asPatterns(t, s[:at])
		asPatterns(t, s[at:])
	}
}

// P3.1: lines that are read.
func TestParseReads(t *testing.T) {
	a := strings.Repeat("a", 64)
	rows := []struct {
		s    string
		want api.Line
	}{
		{`a.TEL;TYPE=home,"x,y":+1`, api.Line{Group: "a", Name: "TEL", Params: []api.Param{par("TYPE", "home", "x,y")}, Value: "+1"}},
		{"A:", api.Line{Name: "A"}},
		{"A:1", with()},
		{"a-9.fN:1", api.Line{Group: "a-9", Name: "fN", Value: "1"}},
		{"-.0:1", api.Line{Group: "-", Name: "0", Value: "1"}},
		{a + "." + a + ";" + a + "=:", api.Line{Group: a, Name: a, Params: []api.Param{par(a, "")}}},
		{`A:;B=1:"x",\n^n^^.` + "\t ", api.Line{Name: "A", Value: `;B=1:"x",\n^n^^.` + "\t "}},
		{"A::", api.Line{Name: "A", Value: ":"}},
		{"A;B=:1", with(par("B", ""))},
		{`A;B="":1`, with(par("B", ""))},
		{"A;B=,:1", with(par("B", "", ""))},
		{`A;B=,"",x,:1`, with(par("B", "", "", "x", ""))},
		{"A;B=1;B=1;b=2:1", with(par("B", "1"), par("B", "1"), par("b", "2"))},
		{"A;B=;C=x:1", with(par("B", ""), par("C", "x"))},
		{"A;B==:1", with(par("B", "="))},
		{"A;B= a.b=c\té漢😀\\^ :1", with(par("B", " a.b=c\té漢😀\\^ "))},
		{`A;B=";:,=. ";C=x:1`, with(par("B", ";:,=. "), par("C", "x"))},
		{"A;B=^n^^^'^x:1", with(par("B", "\n^\"^x"))},
		{`A;B="^n^^^'^x":1`, with(par("B", "\n^\"^x"))},
		{"A;B=^^n,^^^n,^^',^N,^,^^^^,n^,^ n:1", with(par("B", "^n", "^\n", "^'", "^N", "^", "^^", "n^", "^ n"))},
		{`A;B="^","^^":1`, with(par("B", "^", "^"))},
		{"A;B=^:1", with(par("B", "^"))},
		{"A;B=^;C=^:1", with(par("B", "^"), par("C", "^"))},
		{"FN:é漢😀", api.Line{Name: "FN", Value: "é漢😀"}},
	}
	for _, r := range rows {
		parses(t, r.s, r.want, api.OK)
	}
}

// P3.1: each thing that makes an error.
func TestParseRefuses(t *testing.T) {
	a := strings.Repeat("a", 65)
	rows := []struct {
		fault api.Errno
		lines []string
	}{
		{api.ErrText, []string{"A:\n", "A:\r", "A:1\r\n", "\n", "\r", "A\n:", "A:\x00", "A:\x7f", "A:\xff", "A:\xed\xa0\x80", "A;B=\x01:", "A;B=\"\n\":", ":\n", "A;=\xc3", "A\x0b"}},
		{api.ErrName, []string{"", ":1", ":", ".", ".A:1", "A.:1", "A.", "A..B:1", "A.;B=1:", ";B=1:", " A:1", "é:1", "A;=1:", "A;", "A;:1", "A;;B=1:", "A;B=1;:1", "A;B=1;;", "A;B=1;=:", "A;é=1:", "A;\"B\"=1:", "A; B=1:", a + ":1", a, a + ".A:1", "A." + a + ":1", "A;" + a + "=1:", "A;B=1;" + a, "_:1", "=", ",", `"`, "^"}},
		{api.ErrForm, []string{"A", "A.B", "A.B.C:1", "A B:1", "A =1:", "A=1", "A,B:1", "Aé:1", "A_B:1", "A\"", "A;B", "A;B:1", "A;B;C=1:", "A;B,C=1:", "A;B =1:", "A;B.C=1:", "A;Bé=1:", "A;B=", "A;B=1", "A;B=1,", "A;B=1,2", `A;B=x"y:1`, `A;B=x"y":1`, `A;B="x"y:1`, `A;B="x" :1`, `A;B="x""y":1`, `A;B="x`, `A;B="`, `A;B="1:`, `A;B="x",":1`, `A;B=^":1`, `A;B="x"`, `A;B="x",`, "A;B=1;C:", "A;B=\"x\"=1:"}},
	}
	for _, r := range rows {
		for _, s := range r.lines {
			parses(t, s, api.Line{}, r.fault)
		}
	}
}

// P3.1: of two faults the text's counts first, and then the one that stands first.
func TestParseFirstFault(t *testing.T) {
	a := strings.Repeat("a", 65)
	rows := []struct {
		s     string
		fault api.Errno
	}{
		{":\n", api.ErrText}, {"A\xff", api.ErrText}, {";;\x00", api.ErrText},
		{"A;=1", api.ErrName}, {"A;=1;B:", api.ErrName}, {".A", api.ErrName}, {a + "é", api.ErrName}, {"A;" + a + " ", api.ErrName},
		{"A;B;=1:", api.ErrForm}, {`A;B="x;=1:`, api.ErrForm}, {`A;B="x"y;=1:`, api.ErrForm}, {"A.B.:1", api.ErrForm}, {"A " + a + ":", api.ErrForm}, {"A.B." + a + ":", api.ErrForm},
	}
	for _, r := range rows {
		parses(t, r.s, api.Line{}, r.fault)
	}
}

// P3.1: names of each length around the bound, at each place where one may stand.
func TestParseNameLengths(t *testing.T) {
	for n := 1; n <= 70; n++ {
		a := strings.Repeat("a", n)
		fault := api.OK
		if n > 64 {
			fault = api.ErrName
		}
		for _, l := range []api.Line{named("", a), named(a, "A"), named("g", a), named("", "A", a), named("", "A", "B", a)} {
			s := l.Name
			if l.Group != "" {
				s = l.Group + "." + s
			}
			for _, p := range l.Params {
				s += ";" + p.Name + "=x"
			}
			want := l
			if fault != api.OK {
				want = api.Line{}
			}
			parses(t, s+":1", want, fault)
			asPatterns(t, s)
		}
	}
}

// P3.1: long lines are read whole.
func TestParseLong(t *testing.T) {
	var ps []api.Param
	for range 20000 {
		ps = append(ps, par("B", "", "x"), par("C", "^", ";"))
	}
	l := with(ps...)
	l.Value = strings.Repeat("é:", 50000)
	parses(t, "A"+strings.Repeat(`;B=,x;C=^,";"`, 20000)+":"+l.Value, l, api.OK)
	parses(t, "A;B="+strings.Repeat(",", 70000)+":1", with(par("B", make([]string, 70001)...)), api.OK)
	parses(t, `A;B="`+strings.Repeat("^'", 70000)+`":1`, with(par("B", strings.Repeat(`"`, 70000))), api.OK)
	parses(t, "A"+strings.Repeat(";B=1", 20000), api.Line{}, api.ErrForm)
}

// prints asks that Print answers just this text, or the empty one and this error.
func prints(t *testing.T, l api.Line, want string, fault api.Errno) {
	t.Helper()
	got, e := Print(l)
	if e != fault || got != want {
		t.Errorf("Print(%q): %q %d, want %q %d", l, got, e, want, fault)
	}
}

// P3.2: lines that are written.
func TestPrintWrites(t *testing.T) {
	a := strings.Repeat("a", 64)
	rows := []struct {
		l    api.Line
		want string
	}{
		{with(), "A:1"},
		{api.Line{Name: "A"}, "A:"},
		{api.Line{Name: "A", Params: []api.Param{}}, "A:"},
		{api.Line{Group: "a", Name: "tEl", Params: []api.Param{par("tYpe", "home", "x,y")}, Value: "+1"}, `a.tEl;tYpe=home,"x,y":+1`},
		{api.Line{Group: a, Name: a, Params: []api.Param{par(a, a)}}, a + "." + a + ";" + a + "=" + a + ":"},
		{api.Line{Name: "A", Value: `;B=1:"x",\n^n^^.` + "\t "}, `A:;B=1:"x",\n^n^^.` + "\t "},
		{with(par("B", "")), "A;B=:1"},
		{with(par("B", "", "")), "A;B=,:1"},
		{with(par("B", "1"), par("B", "1"), par("b", "2")), "A;B=1;B=1;b=2:1"},
		{with(par("B", "x,y", "x;y", "x:y", ",", ";", ":")), `A;B="x,y","x;y","x:y",",",";",":":1`},
		{with(par("B", "\n", "^", `"`, "\n^\"", "^n", "^^", "^'")), "A;B=^n,^^,^',^n^^^',^^n,^^^^,^^':1"},
		{with(par("B", "\n,", ";^", `":"`)), `A;B="^n,",";^^","^':^'":1`},
		{with(par("B", " ", "=", ".", "\t", "\\", "'", "n", "é漢😀", " x y ")), "A;B= ,=,.,\t,\\,',n,é漢😀, x y :1"},
	}
	for _, r := range rows {
		prints(t, r.l, r.want, api.OK)
	}
}

// P3.2: each byte in a parameter's value and in the value.
func TestPrintBytes(t *testing.T) {
	for i := 0; i < 256; i++ {
		c := string([]byte{byte(i)})
		valid := char.Valid(c) && c != "\r"
		written := c
		switch c {
		case "\n":
			written = "^n"
		case "^":
			written = "^^"
		case `"`:
			written = "^'"
		}
		want, fault := "A;B=x,y"+written+"z:1", api.OK
		if strings.Contains(",;:", c) {
			want = `A;B=x,"y` + c + `z":1`
		}
		if !valid {
			want, fault = "", api.ErrText
		}
		prints(t, with(par("B", "x", "y"+c+"z")), want, fault)
		want, fault = "A:x"+c+"y", api.OK
		if !valid || c == "\n" {
			want, fault = "", api.ErrText
		}
		prints(t, api.Line{Name: "A", Value: "x" + c + "y"}, want, fault)
	}
}

// P3.2: each thing that makes an error, at each place where it may stand.
func TestPrintRefuses(t *testing.T) {
	names := []string{"", " ", "a b", "a.b", "a:", "é", "a_b", "\xff", "\x00", "a\n", "a\r", strings.Repeat("a", 65)}
	for _, n := range names {
		prints(t, api.Line{Name: n}, "", api.ErrName)
		prints(t, named("a", n), "", api.ErrName)
		prints(t, named("", "A", n), "", api.ErrName)
		prints(t, named("", "A", "B", n), "", api.ErrName)
		prints(t, named("", "A", n, "B"), "", api.ErrName)
		if n != "" {
			prints(t, named(n, "A"), "", api.ErrName)
		}
	}
	prints(t, api.Line{}, "", api.ErrName)
	prints(t, with(api.Param{Name: "B"}), "", api.ErrForm)
	prints(t, with(api.Param{Name: "B", Values: []string{}}), "", api.ErrForm)
	prints(t, with(par("B", "x"), par("C")), "", api.ErrForm)
	prints(t, with(par("B"), par("C", "x")), "", api.ErrForm)
	for _, s := range []string{"\r", "a\rb", "\r\n", "\x00", "\x1f", "\x7f", "\xff", "\xc3", "\xed\xa0\x80", "\xc0\x80", "a\xe2\x82"} {
		prints(t, api.Line{Name: "A", Value: s}, "", api.ErrText)
		prints(t, with(par("B", s)), "", api.ErrText)
		prints(t, with(par("B", "x", s)), "", api.ErrText)
		prints(t, with(par("B", s, "x"), par("C", "y")), "", api.ErrText)
		prints(t, with(par("B", "x"), par("C", s)), "", api.ErrText)
	}
	for _, s := range []string{"\n", "a\nb", "a\n", "\na"} {
		prints(t, api.Line{Name: "A", Value: s}, "", api.ErrText)
	}
	// Two values that would make one character of the two halves are none each.
	prints(t, with(par("B", "\xc3", "\xa9")), "", api.ErrText)
}

// P3.2: of several faults a name's counts first, then values that lack, then a text's, wherever they stand.
func TestPrintFirstFault(t *testing.T) {
	names := []func(*api.Line){
		func(l *api.Line) { l.Group = "." },
		func(l *api.Line) { l.Name = "" },
		func(l *api.Line) { l.Params[0].Name = "" },
		func(l *api.Line) { l.Params[2].Name = "b c" },
	}
	forms := []func(*api.Line){
		func(l *api.Line) { l.Params[0].Values = nil },
		func(l *api.Line) { l.Params[2].Values = nil },
	}
	texts := []func(*api.Line){
		func(l *api.Line) { l.Value = "\n" },
		func(l *api.Line) { l.Params[1].Values[0] = "\r" },
		func(l *api.Line) { l.Params[1].Values[1] = "\xff" },
	}
	// Each of a kind with each of the next kinds, or with none.
	none := func(*api.Line) {}
	for i, n := range append(names, none) {
		for j, f := range append(forms, none) {
			for k, x := range append(texts, none) {
				l := with(par("B", "1"), par("C", "2", "3"), par("D", "4"))
				n(&l)
				f(&l)
				x(&l)
				want, fault := "", api.OK
				switch {
				case i < len(names):
					fault = api.ErrName
				case j < len(forms):
					fault = api.ErrForm
				case k < len(texts):
					fault = api.ErrText
				default:
					want = "A;B=1;C=2,3;D=4:1"
				}
				prints(t, l, want, fault)
			}
		}
	}
}

// P3.3: names in great letters, the values as they are, also of what can't be printed.
func TestCanon(t *testing.T) {
	rows := []struct{ l, want api.Line }{
		{api.Line{}, api.Line{}},
		{
			api.Line{Group: "aB-1", Name: "tEl", Params: []api.Param{par("type", "home", "Work"), par("X-é", "a"), par("TYPE", "b")}, Value: "aBc"},
			api.Line{Group: "AB-1", Name: "TEL", Params: []api.Param{par("TYPE", "home", "Work"), par("X-é", "a"), par("TYPE", "b")}, Value: "aBc"},
		},
		{
			api.Line{Group: "é\xffa", Name: "\u0131ı b", Params: []api.Param{par("", "x\n"), par("q", "\xff"), par("r")}, Value: "\r\n"},
			api.Line{Group: "é\xffA", Name: "\u0131ı B", Params: []api.Param{par("", "x\n"), par("Q", "\xff"), par("R")}, Value: "\r\n"},
		},
	}
	for _, r := range rows {
		if got := Canon(r.l); !equal(got, r.want) {
			t.Errorf("Canon(%q): %q, want %q", r.l, got, r.want)
		}
		if got := Canon(r.want); !equal(got, r.want) {
			t.Errorf("Canon(%q): %q", r.want, got)
		}
	}
}

// P3.3: any difference of any field counts, the size of letters too.
func TestSame(t *testing.T) {
	fresh := func() api.Line {
		return api.Line{Group: "g", Name: "A", Params: []api.Param{par("B", "x", "y"), par("C", "z")}, Value: "v"}
	}
	changes := []func(*api.Line){
		func(l *api.Line) { l.Group = "G" },
		func(l *api.Line) { l.Group = "" },
		func(l *api.Line) { l.Name = "a" },
		func(l *api.Line) { l.Value = "V" },
		func(l *api.Line) { l.Value = "v " },
		func(l *api.Line) { l.Params = nil },
		func(l *api.Line) { l.Params = l.Params[:1] },
		func(l *api.Line) { l.Params = append(l.Params, par("C", "z")) },
		func(l *api.Line) { l.Params = append(l.Params, api.Param{}) },
		func(l *api.Line) { l.Params[0].Name = "b" },
		func(l *api.Line) { l.Params[1].Name = "D" },
		func(l *api.Line) { l.Params[0].Values[0] = "X" },
		func(l *api.Line) { l.Params[0].Values[1] = "" },
		func(l *api.Line) { l.Params[0].Values = []string{"y", "x"} },
		func(l *api.Line) { l.Params[0].Values = []string{"x"} },
		func(l *api.Line) { l.Params[0].Values = []string{"x,y"} },
		func(l *api.Line) { l.Params[0].Values = []string{"x", "y", ""} },
		func(l *api.Line) { l.Params[1].Values = nil },
		func(l *api.Line) { l.Params[0], l.Params[1] = l.Params[1], l.Params[0] },
		func(l *api.Line) { l.Params = []api.Param{par("B", "x"), par("B", "y"), par("C", "z")} },
	}
	lines := []api.Line{fresh(), {}}
	for _, change := range changes {
		l := fresh()
		change(&l)
		lines = append(lines, l)
	}
	for i, a := range lines {
		for j, b := range lines {
			if Same(a, b) != (i == j) {
				t.Errorf("Same(%q, %q): want %v", a, b, i == j)
			}
		}
	}
	// Of other memory than the first one.
	if !Same(lines[0], fresh()) {
		t.Errorf("the same line made twice")
	}
}

// P3.3: nil and empty lists are one.
func TestSameEmptyLists(t *testing.T) {
	pairs := [][2]api.Line{
		{with(), {Name: "A", Params: []api.Param{}, Value: "1"}},
		{with(api.Param{Name: "B"}), with(api.Param{Name: "B", Values: []string{}})},
		{{}, {Params: []api.Param{}}},
	}
	for _, p := range pairs {
		if !Same(p[0], p[1]) || !Same(p[1], p[0]) {
			t.Errorf("%#v and %#v", p[0], p[1])
		}
	}
	if Same(with(), with(api.Param{})) || Same(with(par("B")), with(par("B", ""))) {
		t.Errorf("an empty list and a list of an empty thing")
	}
}

// drawn makes a line out of a seed: any names and texts that can be printed.
func drawn(draw func(int) int) api.Line {
	const letters = "abzABZ019-"
	name := func() string {
		b := make([]byte, 1+draw(64))
		for i := range b {
			b[i] = letters[draw(len(letters))]
		}
		return string(b)
	}
	text := func(pieces ...string) string {
		var b strings.Builder
		for range draw(6) {
			b.WriteString(pieces[draw(len(pieces))])
		}
		return b.String()
	}
	l := api.Line{Name: name(), Value: text("a", ":", ";", ",", `"`, "^", "^n", "é", "😀", "\t", " ", "=", ".")}
	if draw(2) == 0 {
		l.Group = name()
	}
	for range draw(4) {
		p := par(name(), text("a", "\n"))
		for range draw(4) {
			p.Values = append(p.Values, text("a", ":", ";", ",", `"`, "^", "n", "'", "\n", "é", "😀", "\t", " ", "=", "."))
		}
		l.Params = append(l.Params, p)
	}
	return l
}

// comesBack asks that a line that can be printed is read as itself.
func comesBack(t *testing.T, l api.Line) {
	t.Helper()
	s, e := Print(l)
	if e != api.OK {
		t.Fatalf("Print(%q): %d", l, e)
	}
	got, e := Parse(s)
	if e != api.OK || !Same(got, l) || !equal(got, l) {
		t.Errorf("%q printed as %q is read as %q %d", l, s, got, e)
	}
}

// P3.3: what is printed is read as itself: drawn lines, and every short parameter's value.
func TestPrintIsRead(t *testing.T) {
	seed := uint32(1)
	draw := func(n int) int {
		seed = seed*1664525 + 1013904223
		return int(seed>>8) % n
	}
	for range 5000 {
		l := drawn(draw)
		comesBack(t, l)
		comesBack(t, Canon(l))
	}
	trial.Every([]string{"^", "n", "'", `"`, "\n", ",", ":"}, 5, func(s string) {
		comesBack(t, with(par("B", s), par("C", "", s)))
	})
	long := strings.Repeat("^\"\n,é", 20000)
	comesBack(t, api.Line{Group: "g", Name: "A", Params: []api.Param{par("B", long, long)}, Value: strings.Repeat(`;:",^`, 20000)})
}

// P3.3: what is read can be printed, and is then read as the same line again.
func TestParsedIsPrinted(t *testing.T) {
	trial.Every([]string{"A", ".", ";B=", "=", ",", ":", `"`, "^", "n"}, 6, func(s string) {
		if l, e := Parse(s); e == api.OK {
			comesBack(t, l)
		}
	})
}

// scribble writes over all that l's lists have room for.
func scribble(l api.Line) {
	for _, p := range l.Params {
		values := p.Values[:cap(p.Values)]
		for i := range values {
			values[i] = "scribbled"
		}
	}
	params := l.Params[:cap(l.Params)]
	for i := range params {
		params[i] = par("scribbled")
	}
}

// Rule 5: what is handed in stays as it is, its spare room too, and isn't kept.
func TestLeavesArguments(t *testing.T) {
	values := []string{"x", "y", "spare", "spare"}
	params := []api.Param{par("b", values[:2]...), {Name: "c", Values: values[:1]}, par("spare", "spare")}
	params[0].Values = values[:2]
	l := api.Line{Group: "g", Name: "a", Params: params[:2], Value: "v"}
	beforeValues, beforeParams := slices.Clone(values), slices.Clone(params)
	intact := func(after string) {
		t.Helper()
		if !slices.Equal(values, beforeValues) || !reflect.DeepEqual(params, beforeParams) {
			t.Fatalf("%s has changed what it was given: %q %q", after, params, values)
		}
	}
	_, _ = Print(l)
	intact("Print")
	Same(l, l)
	intact("Same")
	great := Canon(l)
	intact("Canon")
	scribble(great)
	intact("writing to what Canon answered")
	great = Canon(l)
	want := api.Line{Group: "G", Name: "A", Params: []api.Param{par("B", "x", "y"), par("C", "x")}, Value: "v"}
	scribble(l)
	if !equal(great, want) {
		t.Errorf("what Canon answered has changed: %q", great)
	}
}

// Rule 5: no two lists of one answer share memory, nor do two answers.
func TestAnswersAreNew(t *testing.T) {
	const s = "A;B=1,2,3;C=4,5,6;D=7:1"
	want := with(par("B", "1", "2", "3"), par("C", "4", "5", "6"), par("D", "7"))
	for _, made := range []func() api.Line{
		func() api.Line { l, _ := Parse(s); return l },
		func() api.Line { return Canon(want) },
	} {
		first, second := made(), made()
		for i := range first.Params {
			for range 4 {
				first.Params[i].Values = append(first.Params[i].Values, "more")
			}
			first.Params[i].Values[0] = "other"
		}
		for i, p := range first.Params {
			if !slices.Equal(p.Values[1:len(p.Values)-4], want.Params[i].Values[1:]) {
				t.Errorf("two lists of one answer share: %q", first)
			}
		}
		scribble(first)
		if !equal(second, want) {
			t.Errorf("two answers share: %q", second)
		}
	}
}
