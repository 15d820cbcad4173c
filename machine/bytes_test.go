package machine

import (
	"encoding/binary"
	"slices"
	"strconv"
	"strings"
	"testing"

	"calepin/api"
	"calepin/book"
	"calepin/trial"
)

// A machine's bytes as a plain record: what tests spoil, and an oracle of another make than the package's.
type record struct {
	place uint64
	shelf string
	rows  []rowRecord
}

type rowRecord struct {
	id, last, used uint64
	reply          replyRecord
}

type replyRecord struct {
	status, tag uint64
	data        string
	entries     []entryRecord
	token       string
}

type entryRecord struct {
	name string
	tag  uint64
	data string
	gone byte
}

// bytes is the record as a machine's bytes.
func (r record) bytes() []byte {
	number, text := trial.PutNumber, trial.PutText
	b := number(text(number(nil, r.place), r.shelf), uint64(len(r.rows)))
	for _, x := range r.rows {
		b = number(number(number(b, x.id), x.last), x.used)
		b = text(number(number(b, x.reply.status), x.reply.tag), x.reply.data)
		b = number(b, uint64(len(x.reply.entries)))
		for _, y := range x.reply.entries {
			b = append(text(number(text(b, y.name), y.tag), y.data), y.gone)
		}
		b = text(b, x.reply.token)
	}
	return b
}

// recorded is the record of bytes, or the error for which there is none.
func recorded(b []byte) (record, api.Errno) {
	var r record
	e := trial.Scanned(b, func(s *trial.Scan) {
		r.place, r.shelf = s.Number(), s.Text()
		s.Each(func() {
			x := rowRecord{id: s.Number(), last: s.Number(), used: s.Number()}
			x.reply = replyRecord{status: s.Number(), tag: s.Number(), data: s.Text()}
			s.Each(func() {
				x.reply.entries = append(x.reply.entries, entryRecord{s.Text(), s.Number(), s.Text(), s.Bytes(1)[0]})
			})
			x.reply.token = s.Text()
			r.rows = append(r.rows, x)
		})
	})
	return r, e
}

// recordedOf is the record of a machine's bytes.
func recordedOf(t *testing.T, m *Machine) record {
	t.Helper()
	r, e := recorded(m.Form())
	if e != api.OK {
		t.Fatalf("the machine's bytes: %d", e)
	}
	return r
}

// replied is the record of a reply.
func replied(r api.Reply) replyRecord {
	x := replyRecord{status: uint64(r.Status), tag: uint64(r.Tag), data: r.Data, token: r.Token}
	for _, y := range r.Entries {
		x.entries = append(x.entries, entryRecord{y.Name, uint64(y.Tag), y.Data, map[bool]byte{true: 1}[y.Gone]})
	}
	return x
}

// formed tells whether a record is a machine's.
func (r record) formed() bool {
	numbers, last := []uint64{r.place}, uint64(0)
	for _, x := range r.rows {
		numbers = append(numbers, x.id, x.last, x.used, x.reply.status, x.reply.tag)
		if x.id <= last || x.used < x.id || x.used > r.place {
			return false
		}
		last = x.id
		for _, y := range x.reply.entries {
			numbers = append(numbers, y.tag)
			if y.gone > 1 {
				return false
			}
		}
	}
	_, e := book.Load([]byte(r.shelf))
	return e == api.OK && len(r.rows) <= 8 && slices.Max(numbers) <= 1<<62
}

// is asks that a machine is just that of the record.
func is(t *testing.T, m *Machine, r record) {
	t.Helper()
	if got, want := string(m.Form()), string(r.bytes()); got != want || m.At() != int(r.place) {
		t.Errorf("at %d:\n%q, want at %d:\n%q", m.At(), got, r.place, want)
	}
}

// loads asks that Load answers just this error, or a machine of just these bytes.
func loads(t *testing.T, what string, b []byte, want api.Errno) {
	t.Helper()
	if wrong := trial.Loads(Load, b, want); wrong != "" {
		t.Errorf("%s: %s", what, wrong)
	}
}

// asOracle asks that Load answers what the record of these bytes says, and tells it.
func asOracle(t *testing.T, b []byte) api.Errno {
	t.Helper()
	r, want := recorded(b)
	if want == api.OK && !r.formed() {
		want = api.ErrForm
	}
	loads(t, strconv.Quote(string(b)), b, want)
	return want
}

// shelfBytes are those of a shelf with the collection a and the cards x and y, whose change is 4.
func shelfBytes() string {
	s := book.New()
	s.Do(makes("a", 0, 0))
	s.Do(puts("x", 0, 0))
	s.Do(puts("y", 0, 0))
	s.Do(puts("x", 0, 0))
	return string(s.Form())
}

// sample is a record of a machine: of its three sessions one did nothing, and one was told entries.
func sample() record {
	return record{place: 9, shelf: shelfBytes(), rows: []rowRecord{
		{id: 1, used: 1},
		{id: 3, last: 5, used: 8, reply: replyRecord{207, 7, "d", []entryRecord{{"x", 4, "e", 0}, {"", 0, "", 1}}, "t"}},
		{id: 7, last: 1 << 62, used: 7, reply: replyRecord{status: 404}},
	}}
}

// P14.2: the bytes of a machine, number by number.
func TestForm(t *testing.T) {
	m := machine(t)
	is(t, m, record{4, string(shelfOf(t, m).Form()), []rowRecord{{id: 1, used: 1}, {3, 5, 4, replyRecord{status: 201, tag: 2}}}})
	m.Apply(7, api.Command{Op: api.OpDelete, Book: "a", Name: "x", Session: 1, Seq: 2})
	want := book.New()
	want.Do(makes("a", 0, 0))
	want.Do(puts("x", 0, 0))
	want.Do(api.Command{Op: api.OpDelete, Book: "a", Name: "x"})
	is(t, m, record{7, string(want.Form()), []rowRecord{{1, 2, 7, replyRecord{status: 204}}, {3, 5, 4, replyRecord{status: 201, tag: 2}}}})
	loads(t, "the machine", m.Form(), api.OK)
}

// P14.2: the bytes of a small machine, each as it stands.
func TestFormBytes(t *testing.T) {
	m := New()
	m.Apply(2, opens())
	m.Apply(258, makes(".", 2, 3))
	n := func(b byte) string { return strings.Repeat("\x00", 7) + string(rune(b)) }
	want := strings.Repeat("\x00", 6) + "\x01\x02" + n(16) + n(0) + n(0) + n(1) + n(2) + n(3) + strings.Repeat("\x00", 6) + "\x01\x02" + strings.Repeat("\x00", 6) + "\x01\x93" + n(0) + n(0) + n(0) + n(0)
	if got := string(m.Form()); got != want {
		t.Errorf("\n%q, want\n%q", got, want)
	}
}

// P14.2: a machine that is loaded goes on.
func TestLoadGoesOn(t *testing.T) {
	m, e := Load(sample().bytes())
	if e != api.OK || m.At() != 9 {
		t.Fatalf("%d, at %d", e, m.At())
	}
	late(t, m, 9, opens())
	stays(t, m, 10, makes("b", 3, 5), api.Reply{Status: 207, Tag: 7, Data: "d", Entries: []api.Entry{{Name: "x", Tag: 4, Data: "e"}, {Gone: true}}, Token: "t"})
	stays(t, m, 11, makes("b", 3, 4), api.Reply{Status: 409})
	stays(t, m, 12, makes("b", 7, 1<<62), api.Reply{Status: 404})
	stays(t, m, 13, makes("b", 1, 0), api.Reply{Status: 409})
	stays(t, m, 14, makes("b", 2, 1), api.Reply{Status: 403})
	applies(t, m, 15, makes("b", 1, 1), api.Reply{Status: 201, Tag: 5})
	applies(t, m, 16, opens(), api.Reply{Status: 200, Tag: 16})
	loads(t, "further", m.Form(), api.OK)
}

// P14.2: each beginning of a machine's bytes is too short, whatever else is wrong; and none is longer.
func TestLoadShortAndTrail(t *testing.T) {
	wrong := sample()
	wrong.place, wrong.shelf, wrong.rows[1].id = 1<<63, "none", 0
	for _, r := range []record{{shelf: shelfBytes()}, sample(), wrong} {
		b := r.bytes()
		for n := range b {
			loads(t, "the first "+strconv.Itoa(n), b[:n:n], api.ErrShort)
		}
		for n := 1; n < 50; n++ {
			loads(t, strconv.Itoa(n)+" more", append(slices.Clone(b), make([]byte, n)...), api.ErrTrail)
		}
	}
	loads(t, "none", nil, api.ErrShort)
	loads(t, "an empty machine", record{shelf: string(book.New().Form())}.bytes(), api.OK)
	loads(t, "an empty machine far on", record{place: 1 << 62, shelf: string(book.New().Form())}.bytes(), api.OK)
}

// P14.2: counts and lengths above the number of bytes behind them.
func TestLoadCounts(t *testing.T) {
	b := sample().bytes()
	rows := 16 + len(shelfBytes())
	// Of the shelf, the sessions, the first one's data, entries and token, and of the second one's first entry's name.
	for _, at := range []int{8, rows, rows + 48, rows + 56, rows + 64, rows + 129} {
		if binary.BigEndian.Uint64(b[at:]) > uint64(len(b)-at-8) {
			t.Fatalf("no count stands at %d", at)
		}
		for _, n := range []uint64{uint64(len(b) - at - 7), uint64(len(b)), 1 << 31, 1 << 32, 1 << 62, 1 << 63, 1<<64 - 1} {
			c := slices.Clone(b)
			binary.BigEndian.PutUint64(c[at:], n)
			loads(t, "a count of "+strconv.FormatUint(n, 10)+" at "+strconv.Itoa(at), c, api.ErrShort)
		}
	}
	// The most that a count may say, though the things themselves need more bytes.
	long := binary.BigEndian.AppendUint64(record{shelf: shelfBytes()}.bytes()[:rows], 1<<20)
	loads(t, "many sessions of few bytes", append(long, make([]byte, 1<<20)...), api.ErrShort)
}

// P14.2: each number beside its bounds, on both sides.
func TestLoadForm(t *testing.T) {
	for what, x := range map[string]struct {
		spoil func(r *record)
		want  api.Errno
	}{
		"as it is":                    {func(r *record) {}, api.OK},
		"the greatest place":          {func(r *record) { r.place = 1 << 62 }, api.OK},
		"a greater place":             {func(r *record) { r.place = 1<<62 + 1 }, api.ErrForm},
		"a place with the sign's bit": {func(r *record) { r.place |= 1 << 63 }, api.ErrForm},
		"a place of all bits":         {func(r *record) { r.place = 1<<64 - 1 }, api.ErrForm},
		"the place at a use":          {func(r *record) { r.place = 8 }, api.OK},
		"the place ahead of a use":    {func(r *record) { r.place = 7 }, api.ErrForm},
		"no place, and sessions":      {func(r *record) { r.place = 0 }, api.ErrForm},
		"no place and none":           {func(r *record) { r.place, r.rows = 0, nil }, api.OK},
		"no shelf":                    {func(r *record) { r.shelf = "" }, api.ErrForm},
		"an empty shelf":              {func(r *record) { r.shelf = strings.Repeat("\x00", 16) }, api.OK},
		"a shelf too short":           {func(r *record) { r.shelf = r.shelf[:len(r.shelf)-1] }, api.ErrForm},
		"a shelf too long":            {func(r *record) { r.shelf += "\x00" }, api.ErrForm},
		"a shelf ill formed":          {func(r *record) { r.shelf = "\x80" + r.shelf[1:] }, api.ErrForm},
		"no sessions":                 {func(r *record) { r.rows = nil }, api.OK},
		"a session of nought":         {func(r *record) { r.rows[0].id = 0 }, api.ErrForm},
		"a session twice":             {func(r *record) { r.rows[1].id = 1 }, api.ErrForm},
		"sessions that fall":          {func(r *record) { r.rows[0].id, r.rows[0].used = 4, 4 }, api.ErrForm},
		"a session too great":         {func(r *record) { r.rows[2].id = 1<<62 + 1 }, api.ErrForm},
		"a session with the sign":     {func(r *record) { r.rows[1].id |= 1 << 63 }, api.ErrForm},
		"a session behind its use":    {func(r *record) { r.rows[2].id = 8 }, api.ErrForm},
		"a use at the place":          {func(r *record) { r.rows[1].used = 9 }, api.OK},
		"a use above the place":       {func(r *record) { r.rows[1].used = 10 }, api.ErrForm},
		"a use too great":             {func(r *record) { r.place, r.rows[1].used = 1<<62, 1<<62+1 }, api.ErrForm},
		"a use with the sign's bit":   {func(r *record) { r.rows[1].used |= 1 << 63 }, api.ErrForm},
		"a use at the session":        {func(r *record) { r.rows[1].used = 3 }, api.OK},
		"a use ahead of the session":  {func(r *record) { r.rows[1].used = 2 }, api.ErrForm},
		"nothing done, but told":      {func(r *record) { r.rows[1].last = 0 }, api.OK},
		"something done, not told":    {func(r *record) { r.rows[0].last = 1 }, api.OK},
		"too great a number done":     {func(r *record) { r.rows[2].last = 1<<62 + 1 }, api.ErrForm},
		"done with the sign's bit":    {func(r *record) { r.rows[0].last = 1 << 63 }, api.ErrForm},
		"the greatest status":         {func(r *record) { r.rows[1].reply.status = 1 << 62 }, api.OK},
		"a greater status":            {func(r *record) { r.rows[1].reply.status = 1<<62 + 1 }, api.ErrForm},
		"a status with the sign":      {func(r *record) { r.rows[0].reply.status = 1 << 63 }, api.ErrForm},
		"the greatest tag":            {func(r *record) { r.rows[0].reply.tag = 1 << 62 }, api.OK},
		"a greater tag":               {func(r *record) { r.rows[0].reply.tag = 1<<62 + 1 }, api.ErrForm},
		"a tag of all bits":           {func(r *record) { r.rows[2].reply.tag = 1<<64 - 1 }, api.ErrForm},
		"broken texts":                {func(r *record) { r.rows[2].reply.data, r.rows[2].reply.token = "\xff\x00", "\x80" }, api.OK},
		"a broken name":               {func(r *record) { r.rows[1].reply.entries[0].name = "\xff/" }, api.OK},
		"an entry twice":              {func(r *record) { r.rows[1].reply.entries[1] = r.rows[1].reply.entries[0] }, api.OK},
		"an entry's greatest tag":     {func(r *record) { r.rows[1].reply.entries[1].tag = 1 << 62 }, api.OK},
		"an entry's greater tag":      {func(r *record) { r.rows[1].reply.entries[1].tag = 1<<62 + 1 }, api.ErrForm},
		"an entry's tag of the sign":  {func(r *record) { r.rows[1].reply.entries[0].tag |= 1 << 63 }, api.ErrForm},
		"a byte of 2":                 {func(r *record) { r.rows[1].reply.entries[0].gone = 2 }, api.ErrForm},
		"a byte of 255":               {func(r *record) { r.rows[1].reply.entries[1].gone = 255 }, api.ErrForm},
		"a byte turned":               {func(r *record) { r.rows[1].reply.entries[1].gone = 0 }, api.OK},
	} {
		r := sample()
		x.spoil(&r)
		loads(t, what, r.bytes(), x.want)
		if x.want == api.ErrForm {
			loads(t, what+", and a byte left", append(r.bytes(), 0), api.ErrTrail)
			loads(t, what+", and a byte short", r.bytes()[:len(r.bytes())-1], api.ErrShort)
		}
	}
}

// P14.2: as many sessions as may be, and one more.
func TestLoadLimits(t *testing.T) {
	for n := range 20 {
		r := record{place: 20, shelf: shelfBytes()}
		for i := range n {
			r.rows = append(r.rows, rowRecord{id: uint64(1 + i), used: 20})
		}
		want := api.OK
		if n > 8 {
			want = api.ErrForm
		}
		loads(t, strconv.Itoa(n)+" sessions", r.bytes(), want)
	}
}

// P14.2: each byte laid in, put for another one, and taken out, at each place of a machine's bytes.
func TestLoadBytes(t *testing.T) {
	r := sample()
	r.shelf = string(book.New().Form())
	counts := map[api.Errno]int{}
	trial.Beside(string(r.bytes()), func(s string) { counts[asOracle(t, []byte(s))]++ })
	for _, e := range []api.Errno{api.OK, api.ErrShort, api.ErrTrail, api.ErrForm} {
		if counts[e] < 100 {
			t.Errorf("only %d times %d", counts[e], e)
		}
	}
}

// P14.2: several bytes spoilt at once, drawn.
func TestLoadDrawn(t *testing.T) {
	d := trial.Draws(14)
	b := sample().bytes()
	for range 50000 {
		asOracle(t, d.Spoilt(b))
	}
}
