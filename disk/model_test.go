package disk

import (
	"fmt"
	"slices"
	"strings"
	"testing"

	"calepin/api"
	"calepin/trial"
)

// row is a file: its name now and that when the directory was flushed last (empty: none), its bytes, how many of them are safe.
type row struct {
	name, flushed string
	bytes         string
	safe          int
}

// model of a disk: an oracle of another make than the package's. It has one table of all files, no directories, and a call makes a new one.
type model struct {
	room  int
	rows  []row
	calls int // how many there were that may fail
	torn  int // the number of the first one that fails; 0: none does
}

// with is the model with these rows, of which those without any name are gone.
func (m model) with(rows []row) model {
	m.rows = slices.DeleteFunc(rows, func(r row) bool { return r.name == "" && r.flushed == "" })
	return m
}

// each is the model with each of its rows as change makes it.
func (m model) each(change func(row) row) model {
	rows := slices.Clone(m.rows)
	for i, r := range rows {
		rows[i] = change(r)
	}
	return m.with(rows)
}

// free is the room left.
func (m model) free() int {
	n := m.room
	for _, r := range m.rows {
		n -= len(r.bytes)
	}
	return n
}

// find is the row of a name.
func (m model) find(name string) (row, bool) {
	i := slices.IndexFunc(m.rows, func(r row) bool { return r.name == name && name != "" })
	if i < 0 {
		return row{}, false
	}
	return m.rows[i], true
}

// does is the model behind a call, and what the call must answer.
func (m model) does(c call) (model, api.Errno) {
	switch c.do {
	case "crash":
		return m.crash(c.n), api.OK
	case "fail":
		m.torn = m.calls + max(c.n, 0) + 1
		return m, api.OK
	}
	m.calls++
	if m.torn == 0 || m.calls < m.torn {
		return m.done(c)
	}
	if m.calls == m.torn && c.do == "write" && len(c.with) >= 2 && len(c.with) <= m.free() {
		c.with = c.with[:len(c.with)/2]
		m, _ = m.done(c)
	}
	return m, api.ErrTorn
}

// crash is the model behind a crash.
func (m model) crash(keep int) model {
	m.torn = 0
	return m.each(func(r row) row {
		for left := keep; left > 0 && r.safe < len(r.bytes); left-- {
			r.safe++
		}
		r.name, r.bytes = r.flushed, r.bytes[:r.safe]
		return r
	})
}

// done is the model behind a call that doesn't fail for want of power.
func (m model) done(c call) (model, api.Errno) {
	if c.do == "flush" {
		return m.each(func(r row) row { r.flushed = r.name; return r }), api.OK
	}
	old, there := m.find(c.name)
	switch {
	case c.do == "write":
		return m.write(c)
	case !there:
		return m, api.ErrNone
	case c.do == "cut" && (c.n < 0 || c.n > len(old.bytes)), c.do == "rename" && c.with == "":
		return m, api.ErrArg
	}
	return m.each(func(r row) row {
		switch {
		case c.do == "rename" && r.name == c.with && c.with != c.name:
			r.name = ""
		case r.name != c.name:
		case c.do == "cut":
			r.bytes, r.safe = r.bytes[:c.n], min(r.safe, c.n)
		case c.do == "sync":
			r.safe = len(r.bytes)
		case c.do == "rename":
			r.name = c.with
		case c.do == "remove":
			r.name = ""
		}
		return r
	}), api.OK
}

// write is the model behind a Write.
func (m model) write(c call) (model, api.Errno) {
	if c.name == "" {
		return m, api.ErrArg
	}
	if len(c.with) > m.free() {
		return m, api.ErrFull
	}
	if _, there := m.find(c.name); !there {
		return m.with(append(slices.Clone(m.rows), row{name: c.name, bytes: c.with})), api.OK
	}
	return m.each(func(r row) row {
		if r.name == c.name {
			r.bytes += c.with
		}
		return r
	}), api.OK
}

// agrees asks that a disk tells what the model has, and that there are no files of these names that aren't told.
func (m model) agrees(t *testing.T, d *Disk, stock []string) {
	t.Helper()
	want := files{}
	for _, r := range m.rows {
		if r.name != "" {
			want[r.name] = r.bytes
		}
	}
	has(t, d, want, m.free())
	for _, name := range stock {
		if _, there := want[name]; there {
			continue
		}
		if b, e := d.Read(name); len(b) > 0 || e != api.ErrNone {
			t.Fatalf("Read(%q): %q, %d", name, b, e)
		}
	}
}

// P17.1 to P17.4: all rows of four calls of a few, each of them done anew, and what a crash leaves behind each.
func TestTree(t *testing.T) {
	stock := []string{"", "a", "b", "c"}
	calls := []call{
		writes("a", "12"), writes("a", "345"), writes("b", "6"), writes("b", ""), cuts("a", 1), syncs("a"), renames("a", "b"), renames("b", "a"),
		removes("a"), flushes(), crashes(0), crashes(1), fails(0), fails(1), fails(2),
	}
	count, answers := 0, map[api.Errno]int{}
	var grow func(cs []call, m model)
	grow = func(cs []call, m model) {
		for _, keep := range []int{0, 1, 9} {
			d, _ := New(6)
			for _, c := range cs {
				c.on(d)
			}
			m.agrees(t, d, stock)
			d.Crash(keep)
			m.crash(keep).agrees(t, d, stock)
		}
		count++
		if len(cs) == 4 {
			return
		}
		for _, c := range calls {
			d, _ := New(6)
			for _, ahead := range cs {
				ahead.on(d)
			}
			n, want := m.does(c)
			if got := c.on(d); got != want {
				t.Fatalf("%+v behind %+v: %d, want %d", c, cs, got, want)
			}
			answers[want]++
			grow(behind(cs, c), n)
		}
	}
	grow(nil, model{room: 6})
	if count != 1+15+225+3375+50625 {
		t.Errorf("%d rows of calls", count)
	}
	for _, e := range []api.Errno{api.OK, api.ErrArg, api.ErrNone, api.ErrFull, api.ErrTorn} {
		if answers[e] < 20 {
			t.Errorf("error %d only %d times", e, answers[e])
		}
	}
}

// drawn is one of all calls, with names and numbers of which some are wrong.
func drawn(d *trial.Draws) call {
	name := func() string { return d.Of("a", "a", "b", "b", "c", "d", "") }
	switch d.Below(20) {
	case 0, 1, 2, 3, 4, 5:
		return writes(name(), strings.Repeat(d.Of("x", "y", "z"), d.Below(9)))
	case 6, 7:
		return cuts(name(), d.Below(16)-2)
	case 8, 9, 10, 11:
		return syncs(name())
	case 12, 13:
		return renames(name(), name())
	case 14:
		return removes(name())
	case 15, 16, 17:
		return flushes()
	case 18:
		return crashes(d.Below(6) - 1)
	}
	return fails(d.Below(22) - 2)
}

// P17.1 to P17.4: long rows of drawn calls.
func TestAsModel(t *testing.T) {
	stock := []string{"", "a", "b", "c", "d", "e"}
	counts := map[string]int{}
	for seed := range 1000 {
		draws := trial.Draws(seed)
		room := draws.Below(60)
		d, m := empty(t, room), model{room: room}
		for range 100 {
			c := drawn(&draws)
			n, want := m.does(c)
			does(t, d, c, want)
			n.agrees(t, d, stock)
			if want == api.ErrTorn && n.free() != m.free() {
				counts["half a write"]++
			}
			m = n
			counts[fmt.Sprint(c.do, " ", int(want))]++
		}
	}
	for _, sort := range []string{
		"write 0", "write 2", "write 170", "write 171", "half a write", "cut 0", "cut 2", "cut 171", "cut 172", "sync 0", "sync 171", "sync 172",
		"rename 0", "rename 2", "rename 171", "rename 172", "remove 0", "remove 171", "remove 172", "flush 0", "flush 171", "crash 0", "fail 0",
	} {
		if counts[sort] < 200 {
			t.Errorf("%s only %d times: %v", sort, counts[sort], counts)
		}
	}
}
