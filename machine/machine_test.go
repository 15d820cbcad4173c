package machine

import (
	"math"
	"reflect"
	"strconv"
	"strings"
	"testing"

	"calepin/api"
	"calepin/book"
	"calepin/trial"
)

// jo is a card, and joPrinted its canonical text.
const (
	jo        = "begin:vcard\nversion:4.0\nfn:Jo\nend:vcard\n"
	joPrinted = "BEGIN:VCARD\r\nVERSION:4.0\r\nFN:Jo\r\nEND:VCARD\r\n"
)

// edges are numbers on both sides of each bound, also of those of the machine's own numbers.
var edges = []int{math.MinInt, math.MinInt + 1, -1 << 62, -5, -1, 0, 1, 2, 3, 4, 5, 6, 7, 1 << 31, 1 << 32, 1<<62 - 1, 1 << 62, 1<<62 + 1, math.MaxInt - 1, math.MaxInt}

// same tells whether two replies say the same.
func same(a, b api.Reply) bool {
	if len(a.Entries) == 0 && len(b.Entries) == 0 {
		a.Entries, b.Entries = nil, nil
	}
	return reflect.DeepEqual(a, b)
}

// applies asks that a command at a place is answered by just this, and that it is the machine's place then.
func applies(t *testing.T, m *Machine, at int, c api.Command, want api.Reply) {
	t.Helper()
	if got := m.Apply(at, c); !same(got, want) {
		t.Errorf("Apply(%d, %.200v):\n%.500v, want\n%.500v", at, c, got, want)
	}
	if m.At() != at {
		t.Errorf("Apply(%d, %.200v): at %d", at, c, m.At())
	}
}

// behind is the machine's bytes but for its place.
func behind(m *Machine) string {
	return string(m.Form()[8:])
}

// stays asks that a command at a place is answered by just this, and changes nothing but the place.
func stays(t *testing.T, m *Machine, at int, c api.Command, want api.Reply) {
	t.Helper()
	was := behind(m)
	applies(t, m, at, c, want)
	if behind(m) != was {
		t.Errorf("Apply(%d, %.200v) changed something", at, c)
	}
}

// late asks that a command is too late at a place, and changes nothing.
func late(t *testing.T, m *Machine, at int, c api.Command) {
	t.Helper()
	was := string(m.Form())
	if got := m.Apply(at, c); !same(got, api.Reply{Status: 500}) || string(m.Form()) != was {
		t.Errorf("Apply(%d, %.200v): %v", at, c, got)
	}
}

// makes is the command that makes a collection, in a session.
func makes(name string, id, seq int) api.Command {
	return api.Command{Op: api.OpMake, Book: name, Session: id, Seq: seq}
}

// puts is the command that puts jo into a, in a session.
func puts(name string, id, seq int) api.Command {
	return api.Command{Op: api.OpPut, Book: "a", Name: name, Data: jo, Session: id, Seq: seq}
}

// opens is the command that opens a session.
func opens() api.Command {
	return api.Command{Op: api.OpOpen}
}

// machine is one at place 4, with the collection a, the card x in it, and the sessions 1 and 3, in which 5 was done at 4.
func machine(t *testing.T) *Machine {
	t.Helper()
	m := New()
	applies(t, m, 1, opens(), api.Reply{Status: 200, Tag: 1})
	applies(t, m, 2, makes("a", 0, 0), api.Reply{Status: 201, Tag: 1})
	applies(t, m, 3, opens(), api.Reply{Status: 200, Tag: 3})
	applies(t, m, 4, puts("x", 3, 5), api.Reply{Status: 201, Tag: 2})
	return m
}

// P14.1: what the chapter shows.
func TestExamples(t *testing.T) {
	m := New()
	applies(t, m, 1, opens(), api.Reply{Status: 200, Tag: 1})
	applies(t, m, 2, makes("a", 1, 1), api.Reply{Status: 201, Tag: 1})
	stays(t, m, 3, makes("a", 1, 1), api.Reply{Status: 201, Tag: 1})
	stays(t, m, 4, makes("a", 1, 0), api.Reply{Status: 409})
	late(t, m, 4, makes("a", 1, 0))
}

// P14.1: a new machine is empty.
func TestNew(t *testing.T) {
	m := New()
	if m.At() != 0 {
		t.Errorf("at %d", m.At())
	}
	want := record{shelf: string(book.New().Form())}.bytes()
	if got := m.Form(); string(got) != string(want) {
		t.Errorf("bytes %q, want %q", got, want)
	}
	if r := m.Peek(api.Command{Op: api.OpList}); !same(r, api.Reply{Status: 207}) {
		t.Errorf("collections: %v", r)
	}
}

// P14.1: a place must be above the last one, but needn't be the next one.
func TestPlaces(t *testing.T) {
	commands := []api.Command{opens(), {Op: api.OpNone}, makes("b", 0, 0), puts("y", 3, 6), puts("x", 3, 5), {Op: api.OpList}, {}}
	for _, last := range []int{0, 5, 1 << 62} {
		for _, at := range edges {
			for _, c := range commands {
				m := New()
				if last > 0 {
					m = machine(t)
					m.Apply(last, api.Command{Op: api.OpNone})
				}
				if at <= last {
					late(t, m, at, c)
				} else if r := m.Apply(at, c); r.Status == 500 || m.At() != at {
					t.Errorf("Apply(%d, %v) behind %d: %d, at %d", at, c, last, r.Status, m.At())
				}
			}
		}
	}
}

// P14.1: the command that does nothing, whatever else stands in it.
func TestNone(t *testing.T) {
	m := machine(t)
	stays(t, m, 5, api.Command{Op: api.OpNone}, api.Reply{Status: 200})
	stays(t, m, 9, api.Command{Op: api.OpNone, Book: "a", Name: "x", Session: 3, Seq: 6}, api.Reply{Status: 200})
	stays(t, m, 10, api.Command{Op: api.OpNone, Session: 7, Seq: math.MaxInt}, api.Reply{Status: 200})
}

// P14.1: sessions have the places as numbers, whatever else stands in the commands that open them.
func TestOpen(t *testing.T) {
	m := machine(t)
	applies(t, m, 6, api.Command{Op: api.OpOpen, Book: "a", Session: 3, Seq: 5}, api.Reply{Status: 200, Tag: 6})
	applies(t, m, 9, api.Command{Op: api.OpOpen, Session: 7, Seq: math.MaxInt}, api.Reply{Status: 200, Tag: 9})
	for i, id := range []int{1, 3, 6, 9} {
		stays(t, m, 10+2*i, makes("b", id, 0), api.Reply{Status: 409})
		applies(t, m, 11+2*i, makes("b"+strconv.Itoa(i), id, 6), api.Reply{Status: 201, Tag: 3 + i})
	}
	for at, id := range []int{2, 4, 5, 7, 8, 10, 20} {
		stays(t, m, 20+at, makes("b", id, 6), api.Reply{Status: 403})
	}
}

// P14.1: the ninth session is opened in the place of the one that was used the longest ago: writes that are done use it, also those that the shelf refuses, and nothing else does.
func TestUse(t *testing.T) {
	for what, x := range map[string]struct {
		c    api.Command
		used bool
	}{
		"a write":                {puts("y", 1, 2), true},
		"a write that failed":    {api.Command{Op: api.OpDrop, Book: "none", Session: 1, Seq: 2}, true},
		"a trim":                 {api.Command{Op: api.OpTrim, Book: "a", Session: 1, Seq: 2}, true},
		"a write again":          {puts("y", 1, 1), false},
		"an old write":           {puts("y", 1, 0), false},
		"a number too great":     {puts("y", 1, 1<<62+1), false},
		"a read":                 {api.Command{Op: api.OpList, Book: "a", Session: 1, Seq: 2}, false},
		"a write in no session":  {puts("y", 0, 2), false},
		"nothing":                {api.Command{Op: api.OpNone, Session: 1, Seq: 2}, false},
		"an operation of nought": {api.Command{Session: 1, Seq: 2}, false},
		"an operation too great": {api.Command{Op: 12, Session: 1, Seq: 2}, false},
	} {
		m := New()
		for at := 1; at <= 8; at++ {
			m.Apply(at, opens())
		}
		applies(t, m, 9, makes("a", 1, 1), api.Reply{Status: 201, Tag: 1})
		for at := 10; at < 17; at++ {
			m.Apply(at, makes("a", at-8, 1))
		}
		m.Apply(20, x.c)
		m.Apply(21, opens())
		first, second := 403, 405
		if x.used {
			first, second = 405, 403
		}
		if r := m.Apply(22, makes("a", 1, 9)); r.Status != first {
			t.Errorf("%s: %d of the first session, want %d", what, r.Status, first)
		}
		if r := m.Apply(23, makes("a", 2, 9)); r.Status != second {
			t.Errorf("%s: %d of the second session, want %d", what, r.Status, second)
		}
	}
}

// P14.1: reads, commands in no session, and operations that are none go to the shelf, whatever their session and number.
func TestPastSessions(t *testing.T) {
	for op := api.Op(-2); op <= 14; op++ {
		for _, id := range edges {
			past := id == 0 || op < 1 || op > 11 || op >= api.OpGet && op <= api.OpMulti
			if !past || op == api.OpOpen || op == api.OpNone {
				continue
			}
			for _, seq := range edges {
				m := machine(t)
				c := api.Command{Op: op, Book: "a", Name: "x", Data: jo, Token: "urn:calepin:1.1", Names: []string{"x", "y"}, At: 2, Session: id, Seq: seq}
				want := shelfOf(t, m).Do(c)
				sessions := recordedOf(t, m).rows
				applies(t, m, 5, c, want)
				if got := recordedOf(t, m).rows; !reflect.DeepEqual(got, sessions) {
					t.Fatalf("%v: sessions %v, want %v", c, got, sessions)
				}
			}
		}
	}
}

// shelfOf is a shelf that is the machine's, loaded from its bytes.
func shelfOf(t *testing.T, m *Machine) *book.Shelf {
	t.Helper()
	s, e := book.Load([]byte(recordedOf(t, m).shelf))
	if e != api.OK {
		t.Fatalf("the shelf's bytes: %d", e)
	}
	return s
}

// writes are all sorts of writes that a session may ask for: done, and refused by the shelf.
func writes() []api.Command {
	return []api.Command{
		{Op: api.OpMake, Book: "b"}, {Op: api.OpMake, Book: "a"}, {Op: api.OpMake, Book: ".."},
		{Op: api.OpDrop, Book: "a"}, {Op: api.OpDrop, Book: "b"},
		{Op: api.OpPut, Book: "a", Name: "x", Data: jo}, {Op: api.OpPut, Book: "a", Name: "y", Data: jo}, {Op: api.OpPut, Book: "b", Name: "y", Data: jo},
		{Op: api.OpPut, Book: "a", Name: "x", Data: jo, Match: `"1"`}, {Op: api.OpPut, Book: "a", Name: "x", Data: "none"}, {Op: api.OpPut, Book: "a", Name: "x", Data: jo, None: "x"},
		{Op: api.OpPut, Book: "a", Name: "x", Data: strings.Repeat("x", api.MaxText+1)},
		{Op: api.OpDelete, Book: "a", Name: "x"}, {Op: api.OpDelete, Book: "a", Name: "y"},
		{Op: api.OpTrim, Book: "a", At: 2}, {Op: api.OpTrim, Book: "b"},
	}
}

// P14.1: each write in a session is what the number says: done, as the shelf does it; told again, whatever is asked now; old; too great.
func TestWrites(t *testing.T) {
	for _, c := range writes() {
		for _, seq := range edges {
			c.Session, c.Seq = 3, seq
			m := machine(t)
			s := shelfOf(t, m)
			switch {
			case seq > 1<<62:
				stays(t, m, 5, c, api.Reply{Status: 400})
			case seq < 5:
				stays(t, m, 5, c, api.Reply{Status: 409})
			case seq == 5:
				stays(t, m, 5, c, api.Reply{Status: 201, Tag: 2})
			default:
				want := s.Do(c)
				applies(t, m, 5, c, want)
				is(t, m, record{5, string(s.Form()), []rowRecord{{id: 1, used: 1}, {3, uint64(seq), 5, replied(want)}}})
				for i, other := range writes() {
					other.Session, other.Seq = 3, seq
					stays(t, m, 6+2*i, other, want)
					other.Seq--
					stays(t, m, 7+2*i, other, api.Reply{Status: 409})
				}
			}
		}
	}
}

// P14.1: a session that isn't there, and which of two errors comes first.
func TestNoSession(t *testing.T) {
	for _, c := range writes() {
		for _, id := range edges {
			if id == 0 || id == 1 || id == 3 {
				continue
			}
			for _, seq := range edges {
				c.Session, c.Seq = id, seq
				want := api.Reply{Status: 403}
				if seq > 1<<62 {
					want = api.Reply{Status: 400}
				}
				stays(t, machine(t), 5, c, want)
			}
		}
	}
}

// P14.1: what a fresh session answers to each number: none below 1 is done.
func TestFreshSession(t *testing.T) {
	for _, seq := range edges {
		m := machine(t)
		switch {
		case seq > 1<<62:
			stays(t, m, 5, makes("b", 1, seq), api.Reply{Status: 400})
		case seq < 1:
			stays(t, m, 5, makes("b", 1, seq), api.Reply{Status: 409})
		default:
			applies(t, m, 5, makes("b", 1, seq), api.Reply{Status: 201, Tag: 3})
			stays(t, m, 6, makes("c", 1, seq), api.Reply{Status: 201, Tag: 3})
		}
	}
}

// P14.1: a write that was refused stays so, though it could be done by now.
func TestRefusedStays(t *testing.T) {
	m := machine(t)
	applies(t, m, 5, api.Command{Op: api.OpDelete, Book: "a", Name: "y", Session: 1, Seq: 1}, api.Reply{Status: 404})
	applies(t, m, 6, puts("y", 0, 0), api.Reply{Status: 201, Tag: 3})
	stays(t, m, 7, api.Command{Op: api.OpDelete, Book: "a", Name: "y", Session: 1, Seq: 1}, api.Reply{Status: 404})
	applies(t, m, 8, api.Command{Op: api.OpDelete, Book: "a", Name: "y", Session: 1, Seq: 2}, api.Reply{Status: 204})
}

// P14.1: Peek tells what the shelf would, of any command in any session, and changes nothing.
func TestPeek(t *testing.T) {
	m := machine(t)
	was := string(m.Form())
	for op := api.Op(-2); op <= 14; op++ {
		for _, name := range []string{"", "a", "b"} {
			for _, seq := range []int{0, 5, 6, math.MaxInt} {
				c := api.Command{Op: op, Book: name, Name: "x", Data: jo, Token: "urn:calepin:1.1", Names: []string{"x", "y"}, At: 2, Session: seq % 4, Seq: seq}
				want := shelfOf(t, m).Do(c)
				for range 2 {
					if got := m.Peek(c); !same(got, want) {
						t.Errorf("Peek(%v): %v, want %v", c, got, want)
					}
				}
				if string(m.Form()) != was {
					t.Fatalf("Peek(%v) changed something", c)
				}
			}
		}
	}
	if r := m.Peek(api.Command{Op: api.OpGet, Book: "a", Name: "x"}); !same(r, api.Reply{Status: 200, Tag: 2, Data: joPrinted}) {
		t.Errorf("the card: %v", r)
	}
	for _, op := range []api.Op{api.OpOpen, api.OpNone} {
		if r := m.Peek(api.Command{Op: op}); !same(r, api.Reply{Status: 400}) {
			t.Errorf("Peek of %d: %v", op, r)
		}
	}
}

// P14.1: what is done to a copy or to its original changes the other one in nothing.
func TestCopy(t *testing.T) {
	for _, original := range []bool{true, false} {
		m := machine(t)
		c := m.Copy()
		if c.At() != 4 || string(c.Form()) != string(m.Form()) {
			t.Fatalf("the copy is another one")
		}
		if original {
			m, c = c, m
		}
		was := string(m.Form())
		for at := 5; at < 100; at += 2 {
			applies(t, c, at, puts("x", 3, at+1), api.Reply{Status: 204, Tag: (at + 1) / 2})
			if at > 80 {
				applies(t, c, at+1, opens(), api.Reply{Status: 200, Tag: at + 1})
			}
		}
		c.Apply(200, makes("b", 0, 0))
		c.Apply(201, api.Command{Op: api.OpDrop, Book: "a"})
		if string(m.Form()) != was {
			t.Errorf("the other one changed")
		}
		stays(t, m, 5, puts("x", 3, 5), api.Reply{Status: 201, Tag: 2})
		applies(t, m, 6, puts("x", 3, 6), api.Reply{Status: 204, Tag: 3})
	}
	if c := New().Copy(); string(c.Form()) != string(New().Form()) {
		t.Errorf("the copy of an empty one: %q", c.Form())
	}
}

// scribble writes over a list, and over its spare room.
func scribble(all []api.Entry) {
	all = all[:cap(all)]
	for i := range all {
		all[i] = api.Entry{Name: "scribbled", Tag: 99}
	}
}

// P14.1: what was told may be written over, and so may what was handed in: the machine has its own.
func TestOwn(t *testing.T) {
	r := sample()
	told := api.Reply{Status: 207, Tag: 7, Data: "data", Entries: []api.Entry{{Name: "x", Tag: 4, Data: "of x"}, {Name: "y", Gone: true}}, Token: "token"}
	r.rows[1].reply = replied(told)
	b := r.bytes()
	m, e := Load(b)
	if e != api.OK {
		t.Fatalf("Load: %d", e)
	}
	clear(b)
	c := m.Copy()
	names := []string{"x", "y"}
	for at := 10; at < 16; at += 2 {
		got := m.Apply(at, makes("q", 3, 5))
		if !same(got, told) {
			t.Errorf("told %v, want %v", got, told)
		}
		scribble(got.Entries)
		got = c.Apply(at, makes("q", 3, 5))
		if !same(got, told) {
			t.Errorf("the copy told %v, want %v", got, told)
		}
		scribble(got.Entries)
		scribble(m.Apply(at+1, api.Command{Op: api.OpList, Book: "a"}).Entries)
		scribble(c.Apply(at+1, api.Command{Op: api.OpMulti, Book: "a", Names: names}).Entries)
		scribble(m.Peek(api.Command{Op: api.OpMulti, Book: "a", Names: names}).Entries)
		clear(m.Form())
	}
	r.place = 15
	is(t, m, r)
	is(t, c, r)
	if names[0] != "x" || names[1] != "y" {
		t.Errorf("names changed: %q", names)
	}
}

// P14.1: every call ends, at all arguments.
func TestAnyArguments(t *testing.T) {
	d := trial.Draws(14)
	m := New()
	for at := 1; at < 20000; at++ {
		c := api.Command{
			Op: api.Op(edges[d.Below(len(edges))]), Book: d.Of("", "a", "\xff", ".."), Name: d.Of("", "x", "\x00"), Data: d.Of("", jo, "\xff"),
			Match: d.Of("", "*", "\xff"), None: d.Of("", "x"), Token: d.Of("", "urn:calepin:1.1", "\xff"), Names: []string{d.Of("", "x")},
			At: edges[d.Below(len(edges))], Session: edges[d.Below(len(edges))], Seq: edges[d.Below(len(edges))],
		}
		if d.Below(2) == 0 {
			c.Op = api.Op(d.Below(13))
		}
		if r := m.Apply(at, c); r.Status < 200 || r.Status == 500 {
			t.Fatalf("Apply(%d, %v): %v", at, c, r)
		}
		if r := m.Peek(c); r.Status < 200 || r.Status == 500 {
			t.Fatalf("Peek(%v): %v", c, r)
		}
	}
}
