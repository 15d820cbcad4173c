package session

import (
	"math"
	"reflect"
	"slices"
	"testing"

	"calepin/api"
)

// row is short for one whose result is a text.
type row = api.Row[string]

// edges are numbers on both sides of each bound, also of those of the machine's own numbers.
var edges = []int{math.MinInt, math.MinInt + 1, -1 << 32, -2, -1, 0, 1, 2, 3, 4, 5, 6, 7, 8, 9, 10, 1 << 31, 1 << 32, 1 << 62, 1<<62 + 1, math.MaxInt - 1, math.MaxInt}

// table is one with these sessions.
func table(t *testing.T, rows ...row) *Table[string] {
	t.Helper()
	var b Table[string]
	if !b.Set(rows...) {
		t.Fatalf("Set(%v): false", rows)
	}
	has(t, &b, rows...)
	return &b
}

// full is a table of eight sessions, 10 to 17, whose uses are these.
func full(t *testing.T, uses ...int) *Table[string] {
	t.Helper()
	var rows []row
	for i, used := range uses {
		rows = append(rows, row{Id: 10 + i, Last: i, Used: used, X: "x"})
	}
	return table(t, rows...)
}

// has asks that a table has just these sessions.
func has(t *testing.T, b *Table[string], want ...row) {
	t.Helper()
	if got := b.Rows(); !slices.Equal(got, want) {
		t.Errorf("Rows: %v, want %v", got, want)
	}
}

// ids are the numbers of a table's sessions.
func ids(b *Table[string]) []int {
	var all []int
	for _, r := range b.Rows() {
		all = append(all, r.Id)
	}
	return all
}

// asks asks that Ask answers just this, and changes nothing.
func asks(t *testing.T, b *Table[string], id, seq int, want api.Verdict, x string) {
	t.Helper()
	was := b.Rows()
	if v, got := b.Ask(id, seq); v != want || got != x {
		t.Errorf("Ask(%d, %d): %d %q, want %d %q", id, seq, v, got, want, x)
	}
	has(t, b, was...)
}

// opens asks that Open is true, or that it is false and changes nothing.
func opens(t *testing.T, b *Table[string], now int, want bool) {
	t.Helper()
	was := b.Rows()
	if got := b.Open(now); got != want {
		t.Errorf("Open(%d): %v", now, got)
	}
	if want {
		asks(t, b, now, 0, api.Old, "")
		asks(t, b, now, 1, api.Fresh, "")
	} else {
		has(t, b, was...)
	}
}

// dones asks that Done is true, or that it is false and changes nothing.
func dones(t *testing.T, b *Table[string], id, seq, now int, x string, want bool) {
	t.Helper()
	was := b.Rows()
	if got := b.Done(id, seq, now, x); got != want {
		t.Errorf("Done(%d, %d, %d, %q): %v", id, seq, now, x, got)
	}
	if want {
		asks(t, b, id, seq, api.Again, x)
	} else {
		has(t, b, was...)
	}
}

// The chapter's examples, one behind the other.
func TestExamples(t *testing.T) {
	var b Table[string]
	opens(t, &b, 4, true)
	asks(t, &b, 4, 1, api.Fresh, "")
	dones(t, &b, 4, 1, 5, "x", true)
	asks(t, &b, 4, 1, api.Again, "x")
	asks(t, &b, 4, 3, api.Fresh, "")
	asks(t, &b, 4, 0, api.Old, "")
	asks(t, &b, 5, 1, api.NoSession, "")
	opens(t, &b, 4, false)
	has(t, &b, row{Id: 4, Last: 1, Used: 5, X: "x"})
}

// A table's zero value has no sessions, and may be used.
func TestZero(t *testing.T) {
	for _, id := range edges {
		for _, seq := range edges {
			var b Table[string]
			asks(t, &b, id, seq, api.NoSession, "")
			dones(t, &b, id, seq, id, "x", false)
			has(t, &b)
		}
	}
	var b Table[string]
	has(t, &b)
	if !b.Set() {
		t.Error("Set(): false")
	}
	has(t, &b)
}

// P13.1: a first session opens just above 0, and is of that number, used then, without anything done.
func TestOpenFirst(t *testing.T) {
	for _, now := range edges {
		var b Table[string]
		opens(t, &b, now, now > 0)
		if now > 0 {
			has(t, &b, row{Id: now, Used: now})
		}
	}
}

// P13.1: a further one opens just above each session's number and use, whichever session has the greatest.
func TestOpenAbove(t *testing.T) {
	for _, now := range edges {
		opens(t, table(t, row{Id: 3, Used: 3}), now, now > 3)
		opens(t, table(t, row{Id: 3, Used: 8}), now, now > 8)
		opens(t, table(t, row{Id: 2, Used: 7}, row{Id: 5, Used: 6}), now, now > 7)
		opens(t, table(t, row{Id: 2, Used: 6}, row{Id: 5, Used: 7}), now, now > 7)
		opens(t, table(t, row{Id: 1, Used: 1}, row{Id: 2, Used: 9}, row{Id: 3, Used: 4}), now, now > 9)
		opens(t, table(t, row{Id: 1, Used: math.MaxInt}), now, false)
		opens(t, table(t, row{Id: math.MaxInt, Used: math.MaxInt}), now, false)
	}
	b := table(t, row{Id: 2, Last: 5, Used: 7, X: "x"}, row{Id: 5, Used: 6})
	opens(t, b, 8, true)
	has(t, b, row{Id: 2, Last: 5, Used: 7, X: "x"}, row{Id: 5, Used: 6}, row{Id: 8, Used: 8})
}

// P13.1: what is done in a session is a use of it, above which the next one opens.
func TestOpenAboveUse(t *testing.T) {
	var b Table[string]
	opens(t, &b, 1, true)
	opens(t, &b, 2, true)
	dones(t, &b, 1, 1, 6, "x", true)
	for now := range 7 {
		opens(t, &b, now, false)
	}
	opens(t, &b, 7, true)
}

// P13.1: eight sessions are none too many; the ninth one takes the place of one.
func TestOpenNinth(t *testing.T) {
	var b Table[string]
	for now := 1; now <= 8; now++ {
		opens(t, &b, now, true)
	}
	if got := ids(&b); !slices.Equal(got, []int{1, 2, 3, 4, 5, 6, 7, 8}) {
		t.Errorf("eight sessions: %d", got)
	}
	opens(t, &b, 8, false)
	opens(t, &b, 9, true)
	if got := ids(&b); !slices.Equal(got, []int{2, 3, 4, 5, 6, 7, 8, 9}) {
		t.Errorf("behind the ninth: %d", got)
	}
	asks(t, &b, 1, 1, api.NoSession, "")
	dones(t, &b, 1, 1, 9, "x", false)
	dones(t, &b, 2, 1, 9, "x", true)
	opens(t, &b, 20, true)
	if got := ids(&b); !slices.Equal(got, []int{2, 4, 5, 6, 7, 8, 9, 20}) {
		t.Errorf("2 was used behind 3: %d", got)
	}
}

// P13.1: the one that was used the longest ago is gone, at each place; of several that of the least number.
func TestOpenForgets(t *testing.T) {
	for _, x := range []struct {
		gone int
		uses []int
	}{
		{10, []int{20, 21, 22, 23, 24, 25, 26, 27}},
		{17, []int{27, 26, 25, 24, 23, 22, 21, 20}},
		{14, []int{26, 25, 27, 22, 20, 21, 23, 24}},
		{10, []int{20, 20, 20, 20, 20, 20, 20, 20}},
		{11, []int{30, 20, 20, 20, 20, 20, 20, 20}},
		{13, []int{22, 21, 22, 20, 22, 20, 20, 21}},
		{16, []int{30, 30, 30, 30, 30, 30, 20, 20}},
		{17, []int{30, 30, 30, 30, 30, 30, 30, 20}},
		{10, []int{10, 11, 12, 13, 14, 15, 16, 17}},
		{10, []int{17, 17, 17, 17, 17, 17, 17, 17}},
		{11, []int{math.MaxInt - 1, 11, math.MaxInt - 1, 13, 14, 15, 16, 17}},
	} {
		b := full(t, x.uses...)
		want := slices.DeleteFunc(b.Rows(), func(r row) bool { return r.Id == x.gone })
		now := slices.Max(x.uses) + 1
		opens(t, b, now, true)
		has(t, b, append(want, row{Id: now, Used: now})...)
		asks(t, b, x.gone, 100, api.NoSession, "")
	}
}

// P13.1: all tables of eight sessions whose uses are one of two, at any places.
func TestOpenForgetsAll(t *testing.T) {
	for mask := range 256 {
		var uses []int
		for i := range 8 {
			uses = append(uses, 20+mask>>i&1)
		}
		b := full(t, uses...)
		want := append(b.Rows(), row{Id: 22, Used: 22})
		gone := slices.Index(uses, 20)
		if gone < 0 {
			gone = 0
		}
		opens(t, b, 21, mask == 0)
		if mask == 0 {
			continue
		}
		opens(t, b, 22, true)
		has(t, b, slices.Delete(want, gone, gone+1)...)
	}
}

// P13.2: every session and number, against what was done last.
func TestAsk(t *testing.T) {
	for _, last := range edges {
		if last < 0 {
			continue
		}
		b := table(t, row{Id: 2, Last: 6, Used: 9, X: "other"}, row{Id: 5, Last: last, Used: 5, X: "x"}, row{Id: 7, Used: 8, X: "none"})
		for _, seq := range edges {
			switch {
			case seq > last:
				asks(t, b, 5, seq, api.Fresh, "")
			case seq == last && seq > 0:
				asks(t, b, 5, seq, api.Again, "x")
			default:
				asks(t, b, 5, seq, api.Old, "")
			}
			for _, id := range edges {
				if id != 2 && id != 5 && id != 7 {
					asks(t, b, id, seq, api.NoSession, "")
				}
			}
		}
		asks(t, b, 2, 6, api.Again, "other")
		asks(t, b, 7, 0, api.Old, "")
	}
}

// P13.3: what is fresh is done, whichever number between was left out; the session's row is the new one, and the others stay.
func TestDone(t *testing.T) {
	left, right := row{Id: 2, Last: 6, Used: 9, X: "l"}, row{Id: 7, Last: 3, Used: 8, X: "r"}
	for _, last := range []int{0, 1, 4, math.MaxInt - 1} {
		for _, seq := range edges {
			for _, now := range []int{9, 10, math.MaxInt} {
				b := table(t, left, row{Id: 5, Last: last, Used: 6, X: "x"}, right)
				fresh := seq > last
				dones(t, b, 5, seq, now, "y", fresh)
				if fresh {
					has(t, b, left, row{Id: 5, Last: seq, Used: now, X: "y"}, right)
				}
			}
		}
	}
	b := table(t, left, row{Id: 5, Last: math.MaxInt, Used: 6, X: "x"}, right)
	for _, seq := range edges {
		dones(t, b, 5, seq, 9, "y", false)
	}
}

// P13.3: the time isn't below any session's use, whichever session has the greatest; it may be that use.
func TestDoneNow(t *testing.T) {
	for _, now := range edges {
		for _, id := range []int{1, 2, 3} {
			dones(t, table(t, row{Id: 1, Used: 6}, row{Id: 2, Used: 4}, row{Id: 3, Used: 5}), id, 1, now, "x", now >= 6)
			dones(t, table(t, row{Id: 1, Used: 4}, row{Id: 2, Used: 6}, row{Id: 3, Used: 5}), id, 1, now, "x", now >= 6)
			dones(t, table(t, row{Id: 1, Used: 4}, row{Id: 2, Used: 5}, row{Id: 3, Used: 6}), id, 1, now, "x", now >= 6)
			dones(t, table(t, row{Id: 1, Used: 3}, row{Id: 2, Used: 3}, row{Id: 3, Used: 3}), id, 1, now, "x", now >= 3)
			dones(t, table(t, row{Id: 1, Used: math.MaxInt}, row{Id: 2, Used: 3}, row{Id: 3, Used: 3}), id, 1, now, "x", now == math.MaxInt)
		}
	}
}

// P13.3: what isn't a session's, was done last or was done ahead of that isn't done.
func TestDoneNever(t *testing.T) {
	b := table(t, row{Id: 1, Last: 2, Used: 4, X: "x"}, row{Id: 3, Used: 3})
	for _, now := range edges {
		for _, id := range edges {
			for _, seq := range edges {
				if id != 1 && id != 3 || id == 1 && seq <= 2 || id == 3 && seq <= 0 {
					dones(t, b, id, seq, now, "y", false)
				}
			}
		}
	}
	has(t, b, row{Id: 1, Last: 2, Used: 4, X: "x"}, row{Id: 3, Used: 3})
}

// A result may be the zero value, and is answered again as that.
func TestDoneZero(t *testing.T) {
	b := table(t, row{Id: 1, Last: 1, Used: 1, X: "x"})
	dones(t, b, 1, 2, 1, "", true)
	has(t, b, row{Id: 1, Last: 2, Used: 1})
	dones(t, b, 1, 3, 1, "z", true)
	asks(t, b, 1, 2, api.Old, "")
}

// P13.4: Rows answers by number, not by use, and as they are now.
func TestRows(t *testing.T) {
	b := table(t, row{Id: 1, Used: 30}, row{Id: 20, Used: 20}, row{Id: 21, Used: 25})
	dones(t, b, 20, 7, 40, "x", true)
	opens(t, b, 100, true)
	has(t, b, row{Id: 1, Used: 30}, row{Id: 20, Last: 7, Used: 40, X: "x"}, row{Id: 21, Used: 25}, row{Id: 100, Used: 100})
}

// sets asks that Set is true and the table has just these rows, or that it is false and changes nothing.
func sets(t *testing.T, rows []row, want bool) {
	t.Helper()
	for _, old := range [][]row{{{Id: 3, Last: 2, Used: 9, X: "old"}, {Id: 4, Used: 4}}, nil} {
		b := table(t, old...)
		if got := b.Set(rows...); got != want {
			t.Errorf("Set(%v): %v", rows, got)
		}
		if want {
			has(t, b, rows...)
		} else {
			has(t, b, old...)
		}
	}
}

// P13.4: tables of each size, right ones and such as have one fault at one place.
func TestSet(t *testing.T) {
	for n := range 12 {
		var rows []row
		for i := range n {
			rows = append(rows, row{Id: 10 * (i + 1), Last: i, Used: 200 - i, X: string(rune('a' + i))})
		}
		sets(t, rows, n <= 8)
		for i := range rows {
			spoilt := func(r row, right bool) {
				rs := slices.Clone(rows)
				rs[i] = r
				sets(t, rs, right && n <= 8)
			}
			ahead := 10 * i
			spoilt(row{Id: ahead + 1, Used: ahead + 1}, true)
			spoilt(row{Id: ahead + 19, Used: ahead + 19, Last: math.MaxInt}, true)
			spoilt(row{Id: ahead + 10, Used: math.MaxInt, X: "none"}, true)
			for _, id := range []int{ahead, ahead - 1, 0, -1, math.MinInt} {
				spoilt(row{Id: id, Used: 200}, false)
			}
			for _, last := range []int{-1, -2, math.MinInt} {
				spoilt(row{Id: ahead + 10, Last: last, Used: 200}, false)
			}
			for _, used := range []int{ahead + 9, 0, -1, math.MinInt} {
				spoilt(row{Id: ahead + 10, Used: used}, false)
			}
			spoilt(row{Id: ahead + 20, Used: 200}, i == n-1)
			spoilt(row{Id: math.MaxInt, Used: math.MaxInt}, i == n-1)
		}
	}
}

// P13.4: all lists of at most three rows of a stock.
func TestSetAll(t *testing.T) {
	var stock []row
	for id := -1; id <= 3; id++ {
		for last := -1; last <= 1; last++ {
			for used := range 4 {
				stock = append(stock, row{Id: id, Last: last, Used: used})
			}
		}
	}
	right := 0
	var grow func(rows []row, may bool)
	grow = func(rows []row, may bool) {
		var b Table[string]
		if got := b.Set(rows...); got != may || got && !slices.Equal(b.Rows(), rows) || !got && len(b.Rows()) > 0 {
			t.Fatalf("Set(%v): %v, then %v", rows, got, b.Rows())
		}
		if may {
			right++
		}
		if len(rows) == 3 {
			return
		}
		for _, r := range stock {
			rises := len(rows) == 0 || rows[len(rows)-1].Id < r.Id
			grow(append(slices.Clone(rows), r), may && rises && 1 <= r.Id && 0 <= r.Last && r.Id <= r.Used)
		}
	}
	grow(nil, true)
	// A session 1 has 6 right rows, 2 has 4 and 3 has 2, beside that it isn't there.
	if right != 7*5*3 {
		t.Errorf("%d were right", right)
	}
}

// A table that was set goes on as any other one; one that was set anew has forgotten all.
func TestSetGoesOn(t *testing.T) {
	b := table(t, row{Id: 4, Last: 2, Used: 6, X: "x"})
	asks(t, b, 4, 2, api.Again, "x")
	dones(t, b, 4, 3, 6, "y", true)
	opens(t, b, 7, true)
	if b.Set(row{Id: 4, Used: 3}) || !b.Set() {
		t.Error("Set")
	}
	has(t, b)
	asks(t, b, 4, 3, api.NoSession, "")
	opens(t, b, 4, true)
	has(t, b, row{Id: 4, Used: 4})
}

// What is handed in is neither changed nor kept, its spare room included.
func TestHandedIn(t *testing.T) {
	room := []row{{Id: 1, Last: 1, Used: 1, X: "x"}, {Id: 2, Used: 2}, {Id: 50, X: "mine"}, {Id: 51}, {Id: 52}}
	was := slices.Clone(room)
	var b Table[string]
	if !b.Set(room[:2]...) {
		t.Fatal("Set: false")
	}
	opens(t, &b, 3, true)
	opens(t, &b, 4, true)
	dones(t, &b, 1, 2, 5, "y", true)
	if !slices.Equal(room, was) {
		t.Errorf("what was handed in is now %v", room)
	}
	now := b.Rows()
	for i := range room {
		room[i] = row{Id: 99, Last: 99, Used: 99, X: "spoilt"}
	}
	has(t, &b, now...)
	b.Set(room...)
	has(t, &b, now...)
}

// An answer is new memory: neither the table nor another answer knows what becomes of it, and it knows nothing of what becomes of them.
func TestAnswers(t *testing.T) {
	var b Table[string]
	opens(t, &b, 1, true)
	opens(t, &b, 2, true)
	opens(t, &b, 3, true)
	one, two := b.Rows(), b.Rows()
	want := slices.Clone(one)
	spoilt := append(one[:cap(one)], row{Id: 98})
	for _, rows := range [][]row{one[:cap(one)], spoilt} {
		for i := range rows {
			rows[i] = row{Id: 99, Last: 99, Used: 99, X: "spoilt"}
		}
	}
	has(t, &b, want...)
	opens(t, &b, 4, true)
	dones(t, &b, 2, 1, 4, "x", true)
	if !slices.Equal(two, want) {
		t.Errorf("the other answer is now %v", two)
	}
	has(t, &b, row{Id: 1, Used: 1}, row{Id: 2, Last: 1, Used: 4, X: "x"}, row{Id: 3, Used: 3}, row{Id: 4, Used: 4})
}

// Two tables know nothing of each other, also when one was made from the other.
func TestTables(t *testing.T) {
	a := full(t, 20, 21, 22, 23, 24, 25, 26, 27)
	was := a.Rows()
	b := table(t, was...)
	dones(t, b, 10, 9, 30, "y", true)
	opens(t, b, 31, true)
	has(t, a, was...)
	opens(t, a, 28, true)
	asks(t, b, 28, 1, api.NoSession, "")
	asks(t, b, 10, 9, api.Again, "y")
	asks(t, a, 10, 9, api.NoSession, "")
}

// A table may be of any type: replies, as the machine's is, and such as can't be compared.
func TestTypes(t *testing.T) {
	var replies Table[api.Reply]
	want := api.Reply{Status: 207, Tag: 3, Data: "d", Entries: []api.Entry{{Name: "x", Tag: 2}, {Name: "y", Gone: true}}, Token: "t"}
	if !replies.Open(1) || !replies.Done(1, 1, 2, want) {
		t.Fatal("a reply isn't done")
	}
	if v, got := replies.Ask(1, 1); v != api.Again || !reflect.DeepEqual(got, want) {
		t.Errorf("Ask: %d %v", v, got)
	}
	if v, got := replies.Ask(1, 2); v != api.Fresh || !reflect.DeepEqual(got, api.Reply{}) {
		t.Errorf("Ask: %d %v", v, got)
	}
	var copied Table[api.Reply]
	if !copied.Set(replies.Rows()...) || !reflect.DeepEqual(copied.Rows(), replies.Rows()) {
		t.Errorf("a copy: %v", copied.Rows())
	}
	var functions Table[func() int]
	if !functions.Open(1) || !functions.Done(1, 1, 1, func() int { return 7 }) {
		t.Fatal("a function isn't done")
	}
	if v, f := functions.Ask(1, 1); v != api.Again || f() != 7 {
		t.Errorf("Ask: %d", v)
	}
	if v, f := functions.Ask(1, 0); v != api.Old || f != nil {
		t.Errorf("Ask: %d, and a function", v)
	}
	var nothings Table[struct{}]
	if !nothings.Open(1) || !nothings.Done(1, 1, 1, struct{}{}) || nothings.Done(1, 1, 1, struct{}{}) {
		t.Error("a table of nothings")
	}
}
