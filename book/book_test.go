package book

import (
	"math"
	"reflect"
	"slices"
	"strconv"
	"strings"
	"testing"

	"calepin/api"
)

// jo is a card, and joPrinted its canonical text.
const (
	jo        = "begin:vcard\nversion:4.0\ntel:1\nfn:Jo\nend:vcard\n"
	joPrinted = "BEGIN:VCARD\r\nVERSION:4.0\r\nFN:Jo\r\nTEL:1\r\nEND:VCARD\r\n"
)

// long is a card whose canonical text has so many bytes.
func long(bytes int) string {
	const ahead, behind = "BEGIN:VCARD\r\nVERSION:4.0\r\nFN:Jo\r\n", "END:VCARD\r\n"
	var s strings.Builder
	s.WriteString(ahead)
	left := bytes - len(ahead) - len(behind)
	for ; left >= 140; left -= 70 {
		s.WriteString("X:" + strings.Repeat("y", 66) + "\r\n")
	}
	// The last lines share what is left, so that none is folded.
	for _, n := range []int{left / 2, left - left/2} {
		s.WriteString("X:" + strings.Repeat("y", n-4) + "\r\n")
	}
	return s.String() + behind
}

// is asks that a command is answered by just this.
func is(t *testing.T, s *Shelf, c api.Command, want api.Reply) {
	t.Helper()
	got := s.Do(c)
	if len(got.Entries) == 0 && len(want.Entries) == 0 {
		got.Entries, want.Entries = nil, nil
	}
	if !reflect.DeepEqual(got, want) {
		t.Errorf("%.200v:\n%.500v, want\n%.500v", c, got, want)
	}
}

// refuses asks that a command is answered by just this status, and changes nothing.
func refuses(t *testing.T, s *Shelf, c api.Command, status int) {
	t.Helper()
	was, change := string(s.Form()), s.Change()
	is(t, s, c, api.Reply{Status: status})
	if string(s.Form()) != was || s.Change() != change {
		t.Errorf("%.200v changed something", c)
	}
}

// does asks that a command is a change, and the next one.
func does(t *testing.T, s *Shelf, c api.Command, want api.Reply) {
	t.Helper()
	next := s.Change() + 1
	is(t, s, c, want)
	if s.Change() != next {
		t.Errorf("%.200v: change %d, want %d", c, s.Change(), next)
	}
}

// put is the command that puts jo.
func put(book, name string) api.Command {
	return api.Command{Op: api.OpPut, Book: book, Name: name, Data: jo}
}

// makes is the command that makes a collection.
func makes(book string) api.Command {
	return api.Command{Op: api.OpMake, Book: book}
}

// syncs is the command that asks a collection what has changed since.
func syncs(book, since string) api.Command {
	return api.Command{Op: api.OpSync, Book: book, Token: since}
}

// shelf is one with the collection a, and the card x in it: the change is 2.
func shelf(t *testing.T) *Shelf {
	t.Helper()
	s := New()
	does(t, s, makes("a"), api.Reply{Status: 201, Tag: 1})
	does(t, s, put("a", "x"), api.Reply{Status: 201, Tag: 2})
	return s
}

// P12.1: what the chapter shows.
func TestExamples(t *testing.T) {
	s := shelf(t)
	does(t, s, put("a", "x"), api.Reply{Status: 204, Tag: 3})
	is(t, s, syncs("a", "urn:calepin:1.2"), api.Reply{Status: 207, Entries: []api.Entry{{Name: "x", Tag: 3}}, Token: "urn:calepin:1.3"})
	does(t, s, api.Command{Op: api.OpDelete, Book: "a", Name: "x"}, api.Reply{Status: 204})
	is(t, s, syncs("a", "urn:calepin:1.1"), api.Reply{Status: 207, Token: "urn:calepin:1.4"})
	is(t, s, syncs("a", "urn:calepin:1.2"), api.Reply{Status: 207, Entries: []api.Entry{{Name: "x", Gone: true}}, Token: "urn:calepin:1.4"})
}

// P12.1: a new shelf is empty.
func TestNew(t *testing.T) {
	s := New()
	if s.Change() != 0 || string(s.Form()) != strings.Repeat("\x00", 16) {
		t.Errorf("change %d, bytes %q", s.Change(), s.Form())
	}
	is(t, s, api.Command{Op: api.OpList}, api.Reply{Status: 207})
	for _, op := range []api.Op{api.OpDrop, api.OpDelete, api.OpGet, api.OpSync, api.OpMulti, api.OpTrim} {
		refuses(t, s, api.Command{Op: op}, 404)
		refuses(t, s, api.Command{Op: op, Book: "a", Name: "x", Match: "\"", Token: "x"}, 404)
	}
	refuses(t, s, put("a", "x"), 409)
	refuses(t, s, put("", ""), 409)
}

// P12.1: which operations only ask, and that those do.
func TestReads(t *testing.T) {
	s := shelf(t)
	for op := api.Op(-3); op < 20; op++ {
		want := op == api.OpGet || op == api.OpList || op == api.OpSync || op == api.OpMulti
		if Reads(op) != want {
			t.Errorf("Reads(%d): %v", op, !want)
		}
		if !want {
			continue
		}
		was := string(s.Form())
		s.Do(api.Command{Op: op, Book: "a", Name: "x", Data: jo, Names: []string{"x", "y"}, At: 2})
		if string(s.Form()) != was {
			t.Errorf("%d changed something", op)
		}
	}
	if Reads(math.MinInt) || Reads(math.MaxInt) {
		t.Errorf("far operations")
	}
}

// P12.1: what is no operation of a shelf.
func TestOtherOps(t *testing.T) {
	s := shelf(t)
	for _, op := range []api.Op{math.MinInt, -1, 0, api.OpOpen, api.OpNone, 12, 100, math.MaxInt} {
		refuses(t, s, api.Command{Op: op, Book: "a", Name: "x", Data: jo, Token: "urn:calepin:1.1", Names: []string{"x"}, At: 1}, 400)
		refuses(t, s, api.Command{Op: op}, 400)
	}
}

// P12.1: collections are made and dropped, and one that is made anew is another one.
func TestMakeAndDrop(t *testing.T) {
	s := shelf(t)
	does(t, s, makes("b"), api.Reply{Status: 201, Tag: 3})
	does(t, s, makes("B"), api.Reply{Status: 201, Tag: 4})
	refuses(t, s, makes("a"), 405)
	for _, name := range []string{"", ".", "..", "\x00", "\xff", strings.Repeat("n", 65)} {
		refuses(t, s, makes(name), 403)
	}
	does(t, s, makes(strings.Repeat("n", 64)), api.Reply{Status: 201, Tag: 5})
	is(t, s, api.Command{Op: api.OpList}, api.Reply{Status: 207, Entries: []api.Entry{{Name: "B", Tag: 4}, {Name: "a", Tag: 1}, {Name: "b", Tag: 3}, {Name: strings.Repeat("n", 64), Tag: 5}}})
	does(t, s, api.Command{Op: api.OpDrop, Book: "a"}, api.Reply{Status: 204})
	refuses(t, s, api.Command{Op: api.OpDrop, Book: "a"}, 404)
	refuses(t, s, api.Command{Op: api.OpGet, Book: "a", Name: "x"}, 404)
	does(t, s, makes("a"), api.Reply{Status: 201, Tag: 7})
	is(t, s, api.Command{Op: api.OpList, Book: "a"}, api.Reply{Status: 207, Token: "urn:calepin:7.7"})
	refuses(t, s, syncs("a", "urn:calepin:1.2"), 403)
	refuses(t, s, syncs("a", "urn:calepin:1.7"), 403)
}

// P12.1: as many collections as may be.
func TestMaxBooks(t *testing.T) {
	s := New()
	for i := range api.MaxBooks {
		does(t, s, makes("b"+strconv.Itoa(i)), api.Reply{Status: 201, Tag: i + 1})
	}
	refuses(t, s, makes("c"), 507)
	refuses(t, s, makes("b3"), 405)
	refuses(t, s, makes(".."), 403)
	does(t, s, api.Command{Op: api.OpDrop, Book: "b3"}, api.Reply{Status: 204})
	does(t, s, makes("c"), api.Reply{Status: 201, Tag: 18})
	refuses(t, s, makes("b3"), 507)
}

// P12.1: as many cards as may be in a collection.
func TestMaxCards(t *testing.T) {
	s := New()
	does(t, s, makes("a"), api.Reply{Status: 201, Tag: 1})
	does(t, s, makes("b"), api.Reply{Status: 201, Tag: 2})
	for i := range api.MaxCards {
		does(t, s, put("a", strconv.Itoa(i)), api.Reply{Status: 201, Tag: i + 3})
	}
	refuses(t, s, put("a", "x"), 507)
	full := put("a", "x")
	full.Match = "*"
	refuses(t, s, full, 412)
	full.Data = "none"
	refuses(t, s, full, 403)
	does(t, s, put("a", "7"), api.Reply{Status: 204, Tag: 259})
	does(t, s, put("b", "x"), api.Reply{Status: 201, Tag: 260})
	does(t, s, api.Command{Op: api.OpDelete, Book: "a", Name: "7"}, api.Reply{Status: 204})
	does(t, s, put("a", "x"), api.Reply{Status: 201, Tag: 262})
	refuses(t, s, put("a", "7"), 507)
	if got := s.Do(api.Command{Op: api.OpList, Book: "a"}); len(got.Entries) != 256 || !slices.IsSortedFunc(got.Entries, func(x, y api.Entry) int { return strings.Compare(x.Name, y.Name) }) {
		t.Errorf("%d cards", len(got.Entries))
	}
}

// P12.1: the reasons for which a card isn't put, the first of them where there are several.
func TestPutReasons(t *testing.T) {
	s := shelf(t)
	const bad, other = `"2`, `"7"`
	tooLong := strings.Repeat("x", api.MaxText+1)
	for _, x := range []struct {
		book, name, match, none, data string
		status                        int
	}{
		{"b", "", bad, bad, tooLong, 409}, {"", "x", "", "", jo, 409}, {"A", "x", "", "", jo, 409},
		{"a", "", bad, "", tooLong, 403}, {"a", ".", "", "", jo, 403}, {"a", "..", "", "", jo, 403}, {"a", strings.Repeat("n", 65), "", "", jo, 403}, {"a", "\xff", "", "", jo, 403},
		{"a", "x", bad, "", tooLong, 400}, {"a", "x", "", bad, jo, 400}, {"a", "x", other, bad, "none", 400}, {"a", "x", bad, "*", jo, 400}, {"a", "y", bad, "", jo, 400},
		{"a", "x", other, "", tooLong, 413}, {"a", "x", "", "", long(api.MaxText + 1), 413}, {"a", "y", "", "", tooLong, 413},
		// Its canonical lines end by two bytes, which makes it too long.
		{"a", "x", other, "", strings.ReplaceAll(long(api.MaxText+1), "\r\n", "\n"), 413},
		{"a", "x", other, "", "", 403}, {"a", "x", "", "*", "none\n", 403}, {"a", "x", "", "", "\xff", 403}, {"a", "x", "", "", "BEGIN:VCARD\nVERSION:4.0\nEND:VCARD\n", 403}, {"a", "x", "", "", "none", 403},
		{"a", "x", other, "", jo, 412}, {"a", "x", "", "*", jo, 412}, {"a", "x", "", `"2"`, jo, 412}, {"a", "x", `"2"`, `"2"`, jo, 412}, {"a", "x", `"1"`, "", jo, 412}, {"a", "y", "*", "", jo, 412}, {"a", "y", `"2"`, "", jo, 412},
	} {
		refuses(t, s, api.Command{Op: api.OpPut, Book: x.book, Name: x.name, Match: x.match, None: x.none, Data: x.data}, x.status)
	}
}

// P12.1: a card is put as its canonical text, under the conditions that hold.
func TestPut(t *testing.T) {
	s := shelf(t)
	is(t, s, api.Command{Op: api.OpGet, Book: "a", Name: "x"}, api.Reply{Status: 200, Tag: 2, Data: joPrinted})
	c := put("a", "x")
	for _, x := range [][2]string{{`"2"`, ""}, {"*", ""}, {"", `"2", "3"`}, {` "9" , "5"`, `"6"`}} {
		c.Match, c.None = x[0], x[1]
		does(t, s, c, api.Reply{Status: 204, Tag: s.Change() + 1})
	}
	c.Name, c.Match, c.None = "y", "", "*"
	does(t, s, c, api.Reply{Status: 201, Tag: 7})
	greatest := long(api.MaxText)
	if len(greatest) != api.MaxText {
		t.Fatalf("%d bytes", len(greatest))
	}
	does(t, s, api.Command{Op: api.OpPut, Book: "a", Name: strings.Repeat("n", 64), Data: greatest}, api.Reply{Status: 201, Tag: 8})
	is(t, s, api.Command{Op: api.OpGet, Book: "a", Name: strings.Repeat("n", 64)}, api.Reply{Status: 200, Tag: 8, Data: greatest})
}

// P12.1: cards are deleted under the conditions that hold, for the first reason where they aren't.
func TestDelete(t *testing.T) {
	s := shelf(t)
	for _, x := range []struct {
		book, name, match, none string
		status                  int
	}{
		{"b", "x", "x", "", 404}, {"a", "y", "x", "x", 404}, {"a", "", "", "", 404}, {"a", "y", "*", "", 404},
		{"a", "x", "x", "", 400}, {"a", "x", `"7"`, "x", 400}, {"a", "x", "x", "*", 400},
		{"a", "x", `"7"`, "", 412}, {"a", "x", "", "*", 412}, {"a", "x", "", `"2"`, 412}, {"a", "x", `"1"`, "", 412},
	} {
		refuses(t, s, api.Command{Op: api.OpDelete, Book: x.book, Name: x.name, Match: x.match, None: x.none, Data: jo}, x.status)
	}
	does(t, s, api.Command{Op: api.OpDelete, Book: "a", Name: "x", Match: `"2"`, None: `"1"`}, api.Reply{Status: 204})
	refuses(t, s, api.Command{Op: api.OpDelete, Book: "a", Name: "x"}, 404)
	does(t, s, put("a", "x"), api.Reply{Status: 201, Tag: 4})
	does(t, s, api.Command{Op: api.OpDelete, Book: "a", Name: "x"}, api.Reply{Status: 204})
}

// P12.1: one card, several, and all.
func TestAsking(t *testing.T) {
	s := shelf(t)
	does(t, s, put("a", "é"), api.Reply{Status: 201, Tag: 3})
	does(t, s, put("a", "X"), api.Reply{Status: 201, Tag: 4})
	does(t, s, makes("b"), api.Reply{Status: 201, Tag: 5})
	for _, name := range []string{"", "y", "..", "\xff"} {
		refuses(t, s, api.Command{Op: api.OpGet, Book: "a", Name: name}, 404)
	}
	refuses(t, s, api.Command{Op: api.OpGet, Book: "b", Name: "x"}, 404)
	is(t, s, api.Command{Op: api.OpGet, Book: "a", Name: "X", Match: "x", None: "*"}, api.Reply{Status: 200, Tag: 4, Data: joPrinted})
	all := api.Reply{Status: 207, Entries: []api.Entry{{Name: "X", Tag: 4}, {Name: "x", Tag: 2}, {Name: "é", Tag: 3}}, Token: "urn:calepin:1.5"}
	is(t, s, api.Command{Op: api.OpList, Book: "a", Name: "x"}, all)
	is(t, s, syncs("a", ""), all)
	refuses(t, s, api.Command{Op: api.OpList, Book: "c"}, 404)
	refuses(t, s, syncs("c", ""), 404)
	refuses(t, s, syncs("", ""), 404)
	is(t, s, api.Command{Op: api.OpMulti, Book: "a", Names: []string{"x", "", "y", "x", "..", "X"}}, api.Reply{Status: 207, Entries: []api.Entry{
		{Name: "x", Tag: 2, Data: joPrinted}, {Gone: true}, {Name: "y", Gone: true}, {Name: "x", Tag: 2, Data: joPrinted}, {Name: "..", Gone: true}, {Name: "X", Tag: 4, Data: joPrinted}}})
	is(t, s, api.Command{Op: api.OpMulti, Book: "a"}, api.Reply{Status: 207})
	refuses(t, s, api.Command{Op: api.OpMulti, Book: "", Names: []string{"x"}}, 404)
}

// P12.1, P12.3: the horizon is the first change that the journal has forgotten, when it has more than MaxChanges.
func TestJournal(t *testing.T) {
	s := New()
	does(t, s, makes("a"), api.Reply{Status: 201, Tag: 1})
	does(t, s, makes("b"), api.Reply{Status: 201, Tag: 2})
	first := "urn:calepin:1.1"
	for i := range api.MaxChanges {
		does(t, s, put("a", "x"), api.Reply{Status: min(201+3*i, 204), Tag: i + 3})
		is(t, s, syncs("a", first), api.Reply{Status: 207, Entries: []api.Entry{{Name: "x", Tag: i + 3}}, Token: "urn:calepin:1." + strconv.Itoa(i+3)})
	}
	does(t, s, put("b", "x"), api.Reply{Status: 201, Tag: 67})
	is(t, s, syncs("a", first), api.Reply{Status: 207, Entries: []api.Entry{{Name: "x", Tag: 66}}, Token: "urn:calepin:1.67"})
	does(t, s, put("a", "y"), api.Reply{Status: 201, Tag: 68})
	refuses(t, s, syncs("a", first), 403)
	refuses(t, s, syncs("a", "urn:calepin:1.2"), 403)
	is(t, s, syncs("a", "urn:calepin:1.3"), api.Reply{Status: 207, Entries: []api.Entry{{Name: "x", Tag: 66}, {Name: "y", Tag: 68}}, Token: "urn:calepin:1.68"})
	does(t, s, api.Command{Op: api.OpDelete, Book: "a", Name: "x"}, api.Reply{Status: 204})
	refuses(t, s, syncs("a", "urn:calepin:1.3"), 403)
	is(t, s, syncs("a", "urn:calepin:1.4"), api.Reply{Status: 207, Entries: []api.Entry{{Name: "x", Gone: true}, {Name: "y", Tag: 68}}, Token: "urn:calepin:1.69"})
	is(t, s, syncs("b", "urn:calepin:2.2"), api.Reply{Status: 207, Entries: []api.Entry{{Name: "x", Tag: 67}}, Token: "urn:calepin:2.69"})
}

// P12.1: what a collection's token may be.
func TestSyncTokens(t *testing.T) {
	s := shelf(t)
	does(t, s, makes("b"), api.Reply{Status: 201, Tag: 3})
	for _, since := range []string{"x", " ", "urn:calepin:1", "urn:calepin:01.1", "urn:calepin:1.0", "urn:calepin:1.4", "urn:calepin:3.3", "urn:calepin:2.2", "urn:calepin:1.1 ", "urn:calepin:1.4611686018427387904"} {
		refuses(t, s, syncs("a", since), 403)
	}
	for _, at := range []string{"1.2", "1.3"} {
		is(t, s, syncs("a", "urn:calepin:"+at), api.Reply{Status: 207, Token: "urn:calepin:1.3"})
	}
	is(t, s, syncs("b", "urn:calepin:3.3"), api.Reply{Status: 207, Token: "urn:calepin:3.3"})
	refuses(t, s, syncs("b", "urn:calepin:3.4"), 403)
}

// P12.1: the horizon goes up, at most to the shelf's change, and never down.
func TestTrim(t *testing.T) {
	for _, x := range []struct{ at, horizon int }{
		{math.MinInt, 1}, {-1, 1}, {0, 1}, {1, 1}, {2, 2}, {3, 3}, {4, 4}, {5, 5}, {6, 6}, {7, 6}, {1 << 62, 6}, {math.MaxInt, 6},
	} {
		s := shelf(t)
		does(t, s, put("a", "y"), api.Reply{Status: 201, Tag: 3})
		does(t, s, makes("b"), api.Reply{Status: 201, Tag: 4})
		does(t, s, put("a", "x"), api.Reply{Status: 204, Tag: 5})
		does(t, s, put("b", "x"), api.Reply{Status: 201, Tag: 6})
		is(t, s, api.Command{Op: api.OpTrim, Book: "a", At: x.at}, api.Reply{Status: 204})
		if s.Change() != 6 {
			t.Errorf("a trim was change %d", s.Change())
		}
		for at := 1; at <= 6; at++ {
			since := syncs("a", "urn:calepin:1."+strconv.Itoa(at))
			if at < x.horizon {
				refuses(t, s, since, 403)
			} else if got := s.Do(since); got.Status != 207 {
				t.Errorf("trimmed at %d, synced from %d: %d", x.at, at, got.Status)
			}
		}
		is(t, s, syncs("b", "urn:calepin:4.4"), api.Reply{Status: 207, Entries: []api.Entry{{Name: "x", Tag: 6}}, Token: "urn:calepin:4.6"})
		is(t, s, api.Command{Op: api.OpTrim, Book: "a", At: 2}, api.Reply{Status: 204})
		if x.horizon > 2 {
			refuses(t, s, syncs("a", "urn:calepin:1.2"), 403)
		}
	}
	refuses(t, New(), api.Command{Op: api.OpTrim, Book: "a", At: 1}, 404)
}

// P12.1: a copy is the same, and of its own.
func TestCopy(t *testing.T) {
	s := shelf(t)
	c := s.Copy()
	was := string(s.Form())
	if string(c.Form()) != was || c.Change() != 2 {
		t.Errorf("the copy isn't the same")
	}
	for _, x := range []api.Command{put("a", "x"), put("a", "y"), {Op: api.OpDelete, Book: "a", Name: "x"}, makes("b"), {Op: api.OpTrim, Book: "a", At: 9}, {Op: api.OpDrop, Book: "a"}} {
		c.Do(x)
		if string(s.Form()) != was || s.Change() != 2 {
			t.Errorf("%v of the copy changed the shelf", x)
		}
	}
	c = s.Copy()
	for range 70 {
		s.Do(put("a", "x"))
	}
	s.Do(makes("b"))
	if string(c.Form()) != was {
		t.Errorf("the shelf changed its copy")
	}
}

// P12.1: what is handed in is neither changed nor kept, and an answer is new memory.
func TestMemory(t *testing.T) {
	s := shelf(t)
	asked := []string{"x", "y", "spare"}
	s.Do(api.Command{Op: api.OpMulti, Book: "a", Names: asked[:2]})
	if !slices.Equal(asked, []string{"x", "y", "spare"}) {
		t.Errorf("names are %q", asked)
	}
	for _, c := range []api.Command{{Op: api.OpList}, {Op: api.OpList, Book: "a"}, syncs("a", "urn:calepin:1.1"), {Op: api.OpMulti, Book: "a", Names: asked}} {
		got, want := s.Do(c), s.Do(c)
		got.Entries[0].Name = "spoilt"
		_ = append(got.Entries[:0], api.Entry{Tag: 99})
		is(t, s, c, want)
	}
	b := s.Form()
	was := string(b)
	clear(b[:cap(b)])
	if string(s.Form()) != was {
		t.Errorf("the bytes are the shelf's own")
	}
	b = []byte(was)
	l, _ := Load(b)
	clear(b)
	if string(l.Form()) != was {
		t.Errorf("the shelf keeps the bytes")
	}
}
