package book

import (
	"encoding/binary"
	"slices"
	"strconv"
	"strings"
	"testing"

	"calepin/api"
	"calepin/card"
	"calepin/path"
	"calepin/trial"
)

// A shelf's bytes as a plain record: what tests spoil, and an oracle of another make than the package's.
type record struct {
	change uint64
	books  []bookRecord
}

type bookRecord struct {
	name          string
	made, horizon uint64
	cards         []cardRecord
	journal       []changeRecord
}

type cardRecord struct {
	name string
	tag  uint64
	text string
}

type changeRecord struct {
	at   uint64
	name string
	was  byte
}

// bytes is the record as a shelf's bytes.
func (r record) bytes() []byte {
	number, text := trial.PutNumber, trial.PutText
	b := number(number(nil, r.change), uint64(len(r.books)))
	for _, x := range r.books {
		b = number(number(number(text(b, x.name), x.made), x.horizon), uint64(len(x.cards)))
		for _, k := range x.cards {
			b = text(number(text(b, k.name), k.tag), k.text)
		}
		b = number(b, uint64(len(x.journal)))
		for _, c := range x.journal {
			b = append(text(number(b, c.at), c.name), c.was)
		}
	}
	return b
}

// recorded is the record of bytes, or the error for which there is none.
func recorded(b []byte) (record, api.Errno) {
	var r record
	e := trial.Scanned(b, func(s *trial.Scan) {
		r.change = s.Number()
		s.Each(func() {
			x := bookRecord{name: s.Text(), made: s.Number(), horizon: s.Number()}
			s.Each(func() { x.cards = append(x.cards, cardRecord{s.Text(), s.Number(), s.Text()}) })
			s.Each(func() { x.journal = append(x.journal, changeRecord{s.Number(), s.Text(), s.Bytes(1)[0]}) })
			r.books = append(r.books, x)
		})
	})
	return r, e
}

// named tells whether segments stand for all names, and whether they rise.
func named(names []string) (all, rise bool) {
	all, rise = true, true
	for i, name := range names {
		_, e := path.Segment(name)
		all = all && e == api.OK
		rise = rise && (i == 0 || names[i-1] < name)
	}
	return all, rise
}

// formed tells whether a record is a shelf's.
func (r record) formed() bool {
	var names []string
	for _, x := range r.books {
		names = append(names, x.name)
		if !x.formed(r.change) {
			return false
		}
	}
	all, rise := named(names)
	return r.change <= 1<<62 && len(names) <= 16 && all && rise
}

// formed tells whether a record is a collection's.
func (x bookRecord) formed(change uint64) bool {
	var cards, changes []string
	last := x.horizon
	for _, c := range x.journal {
		changes = append(changes, c.name)
		if c.at <= last || c.at > change || c.was > 1 {
			return false
		}
		last = c.at
	}
	for _, k := range x.cards {
		cards = append(cards, k.name)
		c, e := card.Parse(k.text)
		text, f := card.Print(c)
		if e != api.OK || f != api.OK || text != k.text || k.tag <= x.made || k.tag > change {
			return false
		}
	}
	known, _ := named(changes)
	all, rise := named(cards)
	return known && all && rise && len(cards) <= 256 && len(changes) <= 64 && 1 <= x.made && x.made <= x.horizon && x.horizon <= change
}

// loads asks that Load answers just this error, or a shelf of just these bytes.
func loads(t *testing.T, what string, b []byte, want api.Errno) {
	t.Helper()
	if wrong := trial.Loads(Load, b, want); wrong != "" {
		t.Errorf("%s: %s", what, wrong)
	}
}

// asOracle asks that Load answers what the record of these bytes says, and tells it.
func asOracle(t *testing.T, b []byte) api.Errno {
	t.Helper()
	r, want := recorded(b)
	if want == api.OK && !r.formed() {
		want = api.ErrForm
	}
	loads(t, strconv.Quote(string(b)), b, want)
	return want
}

// sample is a record of a shelf.
func sample() record {
	return record{change: 9, books: []bookRecord{
		{name: "a", made: 1, horizon: 3, cards: []cardRecord{{"x", 2, joPrinted}, {"y", 9, joPrinted}}, journal: []changeRecord{{4, "x", 1}, {7, "z", 1}, {9, "y", 0}}},
		{name: "b", made: 8, horizon: 9},
	}}
}

// P12.2: the bytes of a shelf, number by number.
func TestForm(t *testing.T) {
	s := shelf(t)
	does(t, s, makes("b"), api.Reply{Status: 201, Tag: 3})
	does(t, s, put("a", "x"), api.Reply{Status: 204, Tag: 4})
	does(t, s, put("a", "Y"), api.Reply{Status: 201, Tag: 5})
	s.Do(api.Command{Op: api.OpTrim, Book: "a", At: 2})
	want := record{5, []bookRecord{
		{"a", 1, 2, []cardRecord{{"Y", 5, joPrinted}, {"x", 4, joPrinted}}, []changeRecord{{4, "x", 1}, {5, "Y", 0}}},
		{"b", 3, 3, nil, nil},
	}}.bytes()
	if got := s.Form(); string(got) != string(want) {
		t.Errorf("\n%q, want\n%q", got, want)
	}
	loads(t, "the shelf", want, api.OK)
}

// P12.2: a shelf that is loaded goes on.
func TestLoadGoesOn(t *testing.T) {
	s, e := Load(sample().bytes())
	if e != api.OK || s.Change() != 9 {
		t.Fatalf("%d, change %d", e, s.Change())
	}
	is(t, s, api.Command{Op: api.OpList}, api.Reply{Status: 207, Entries: []api.Entry{{Name: "a", Tag: 1}, {Name: "b", Tag: 8}}})
	is(t, s, api.Command{Op: api.OpGet, Book: "a", Name: "y"}, api.Reply{Status: 200, Tag: 9, Data: joPrinted})
	refuses(t, s, syncs("a", "urn:calepin:1.2"), 403)
	is(t, s, syncs("a", "urn:calepin:1.4"), api.Reply{Status: 207, Entries: []api.Entry{{Name: "y", Tag: 9}, {Name: "z", Gone: true}}, Token: "urn:calepin:1.9"})
	does(t, s, put("b", "x"), api.Reply{Status: 201, Tag: 10})
	does(t, s, makes("c"), api.Reply{Status: 201, Tag: 11})
	loads(t, "further", s.Form(), api.OK)
}

// P12.2: each beginning of a shelf's bytes is too short, whatever else is wrong; and none is longer.
func TestLoadShortAndTrail(t *testing.T) {
	wrong := sample()
	wrong.change, wrong.books[0].name = 1<<63, ""
	for _, r := range []record{{}, sample(), wrong} {
		b := r.bytes()
		for n := range b {
			loads(t, "the first "+strconv.Itoa(n), b[:n:n], api.ErrShort)
		}
		for n := 1; n < 50; n++ {
			loads(t, strconv.Itoa(n)+" more", append(slices.Clone(b), make([]byte, n)...), api.ErrTrail)
		}
	}
	loads(t, "none", nil, api.ErrShort)
	loads(t, "an empty shelf", record{}.bytes(), api.OK)
	loads(t, "an empty shelf of many changes", record{change: 1 << 62}.bytes(), api.OK)
}

// P12.2: counts and lengths above the number of bytes behind them.
func TestLoadCounts(t *testing.T) {
	b := sample().bytes()
	// Of the collections, a's name, its cards, x's name and text.
	for _, at := range []int{8, 16, 41, 49, 66} {
		for _, n := range []uint64{uint64(len(b) - at - 8), uint64(len(b) - at - 7), 1 << 31, 1 << 32, 1 << 62, 1 << 63, 1<<64 - 1} {
			c := slices.Clone(b)
			binary.BigEndian.PutUint64(c[at:], n)
			loads(t, "a count of "+strconv.FormatUint(n, 10)+" at "+strconv.Itoa(at), c, api.ErrShort)
		}
	}
	loads(t, "a count above the bytes of a wrong shelf", binary.BigEndian.AppendUint64(record{change: 1 << 63}.bytes()[:8], 1), api.ErrShort)
}

// P12.2: each number and name beside its bounds, on both sides.
func TestLoadForm(t *testing.T) {
	for what, x := range map[string]struct {
		spoil func(r *record)
		want  api.Errno
	}{
		"as it is":                     {func(r *record) {}, api.OK},
		"the greatest change":          {func(r *record) { r.change = 1 << 62 }, api.OK},
		"a greater change":             {func(r *record) { r.change = 1<<62 + 1 }, api.ErrForm},
		"the sign's bit":               {func(r *record) { r.change = 1 << 63 }, api.ErrForm},
		"all bits":                     {func(r *record) { r.change = 1<<64 - 1 }, api.ErrForm},
		"a change ahead of the tag":    {func(r *record) { r.change = 8 }, api.ErrForm},
		"no name":                      {func(r *record) { r.books[0].name = "" }, api.ErrForm},
		"a name of 64":                 {func(r *record) { r.books[1].name = strings.Repeat("n", 64) }, api.OK},
		"a name of 65":                 {func(r *record) { r.books[1].name = strings.Repeat("n", 65) }, api.ErrForm},
		"a stop for a name":            {func(r *record) { r.books[0].name = "." }, api.ErrForm},
		"an unvalid name":              {func(r *record) { r.books[1].name = "b\xff" }, api.ErrForm},
		"a name twice":                 {func(r *record) { r.books[1].name = "a" }, api.ErrForm},
		"names that fall":              {func(r *record) { r.books[1].name = "A" }, api.ErrForm},
		"made 0":                       {func(r *record) { r.books[0].made = 0 }, api.ErrForm},
		"made at the tag":              {func(r *record) { r.books[0].made = 2 }, api.ErrForm},
		"made at the horizon":          {func(r *record) { r.books[1].made = 9 }, api.OK},
		"made behind the horizon":      {func(r *record) { r.books[1].made = 10 }, api.ErrForm},
		"made far behind":              {func(r *record) { r.books[1].made = 1<<62 + 1 }, api.ErrForm},
		"made with the sign's bit":     {func(r *record) { r.books[0].made |= 1 << 63 }, api.ErrForm},
		"two made at once":             {func(r *record) { r.books[1].made = 1 }, api.OK},
		"the horizon at made":          {func(r *record) { r.books[0].horizon = 1 }, api.OK},
		"the horizon ahead of made":    {func(r *record) { r.books[0].horizon = 0 }, api.ErrForm},
		"b's horizon ahead of made":    {func(r *record) { r.books[1].horizon = 7 }, api.ErrForm},
		"the horizon above the change": {func(r *record) { r.books[1].horizon = 10 }, api.ErrForm},
		"the horizon at the journal":   {func(r *record) { r.books[0].horizon = 4 }, api.ErrForm},
		"no card's name":               {func(r *record) { r.books[0].cards[0].name = "" }, api.ErrForm},
		"a card twice":                 {func(r *record) { r.books[0].cards[0].name = "y" }, api.ErrForm},
		"cards that fall":              {func(r *record) { r.books[0].cards[0].name = "z" }, api.ErrForm},
		"a card's name of 65":          {func(r *record) { r.books[0].cards[1].name = strings.Repeat("z", 65) }, api.ErrForm},
		"a tag at made":                {func(r *record) { r.books[0].cards[0].tag = 1 }, api.ErrForm},
		"a tag at the change":          {func(r *record) { r.books[0].cards[0].tag = 9 }, api.OK},
		"a tag above the change":       {func(r *record) { r.books[0].cards[1].tag = 10 }, api.ErrForm},
		"a tag with the sign's bit":    {func(r *record) { r.books[0].cards[0].tag |= 1 << 63 }, api.ErrForm},
		"no text":                      {func(r *record) { r.books[0].cards[0].text = "" }, api.ErrForm},
		"a card not printed anew":      {func(r *record) { r.books[0].cards[0].text = jo }, api.ErrForm},
		"the longest text":             {func(r *record) { r.books[0].cards[0].text = long(api.MaxText) }, api.OK},
		"a longer text":                {func(r *record) { r.books[0].cards[0].text = long(api.MaxText + 1) }, api.ErrForm},
		"a text and more":              {func(r *record) { r.books[0].cards[0].text += "\r\n" }, api.ErrForm},
		"a change at another's":        {func(r *record) { r.books[0].journal[1].at = 4 }, api.ErrForm},
		"changes that fall":            {func(r *record) { r.books[0].journal[0].at = 8 }, api.ErrForm},
		"a change at the horizon":      {func(r *record) { r.books[0].journal[0].at = 3 }, api.ErrForm},
		"a change above the last":      {func(r *record) { r.books[0].journal[2].at = 10 }, api.ErrForm},
		"a change with the sign's bit": {func(r *record) { r.books[0].journal[2].at |= 1 << 63 }, api.ErrForm},
		"no name changed":              {func(r *record) { r.books[0].journal[1].name = "" }, api.ErrForm},
		"no segment changed":           {func(r *record) { r.books[0].journal[1].name = ".." }, api.ErrForm},
		"changes to one card":          {func(r *record) { r.books[0].journal[1].name = "x" }, api.OK},
		"a byte of 2":                  {func(r *record) { r.books[0].journal[2].was = 2 }, api.ErrForm},
		"a byte of 255":                {func(r *record) { r.books[0].journal[0].was = 255 }, api.ErrForm},
		"a byte turned":                {func(r *record) { r.books[0].journal[0].was = 0 }, api.OK},
	} {
		r := sample()
		x.spoil(&r)
		loads(t, what, r.bytes(), x.want)
		if x.want == api.ErrForm {
			loads(t, what+", and a byte left", append(r.bytes(), 0), api.ErrTrail)
			loads(t, what+", and a byte short", r.bytes()[:len(r.bytes())-1], api.ErrShort)
		}
	}
}

// P12.2: as many collections, cards and changes as may be, and one more.
func TestLoadLimits(t *testing.T) {
	name := func(i int) string { return strconv.Itoa(1000 + i) }
	for more, want := range []api.Errno{api.OK, api.ErrForm, api.ErrForm} {
		r := sample()
		for i := range api.MaxBooks - 2 + more {
			r.books = append(r.books, bookRecord{name: "c" + name(i), made: 1, horizon: 1})
		}
		loads(t, strconv.Itoa(len(r.books))+" collections", r.bytes(), want)
		r = sample()
		for i := range api.MaxCards - 2 + more {
			r.books[0].cards = append(r.books[0].cards, cardRecord{"z" + name(i), 9, joPrinted})
		}
		loads(t, strconv.Itoa(len(r.books[0].cards))+" cards", r.bytes(), want)
		r = sample()
		r.change = 100
		for i := range api.MaxChanges - 3 + more {
			r.books[0].journal = append(r.books[0].journal, changeRecord{uint64(10 + i), "x", 1})
		}
		loads(t, strconv.Itoa(len(r.books[0].journal))+" changes", r.bytes(), want)
	}
}

// P12.2: each byte laid in, put for another one, and taken out, at each place of a shelf's bytes.
func TestLoadBytes(t *testing.T) {
	r := sample()
	r.books[0].cards = r.books[0].cards[:1]
	counts := map[api.Errno]int{}
	trial.Beside(string(r.bytes()), func(s string) { counts[asOracle(t, []byte(s))]++ })
	for _, e := range []api.Errno{api.OK, api.ErrShort, api.ErrTrail, api.ErrForm} {
		if counts[e] < 100 {
			t.Errorf("only %d times %d", counts[e], e)
		}
	}
}

// P12.2: several bytes spoilt at once, drawn.
func TestLoadDrawn(t *testing.T) {
	d := trial.Draws(12)
	b := sample().bytes()
	for range 50000 {
		asOracle(t, d.Spoilt(b))
	}
}
