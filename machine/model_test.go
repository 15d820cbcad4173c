package machine

import (
	"cmp"
	"fmt"
	"slices"
	"strconv"
	"testing"

	"calepin/api"
	"calepin/book"
	"calepin/trial"
)

// A model of a machine: an oracle of another make than the package's. It has all that happened in sessions, and works out each answer from that; layer 12 does what is to be done.
type model struct {
	place    int
	shelf    *book.Shelf
	happened []happened
}

// happened is something in a session: that it was opened (seq is 0), that a request was done, or that it was forgotten.
type happened struct {
	id, seq, at int
	reply       api.Reply
	forgotten   bool
}

// rows are the sessions that are there, by number.
func (m *model) rows() []rowRecord {
	var all []rowRecord
	for _, h := range m.happened {
		i := slices.IndexFunc(all, func(x rowRecord) bool { return x.id == uint64(h.id) })
		switch {
		case h.forgotten:
			all = slices.Delete(all, i, i+1)
		case i < 0:
			all = append(all, rowRecord{id: uint64(h.id), used: uint64(h.at)})
		default:
			all[i] = rowRecord{uint64(h.id), uint64(h.seq), uint64(h.at), replied(h.reply)}
		}
	}
	return all
}

// record is the model's bytes as a record.
func (m *model) record() record {
	return record{uint64(m.place), string(m.shelf.Form()), m.rows()}
}

// apply is what a command at a place must be answered.
func (m *model) apply(at int, c api.Command) api.Reply {
	if at <= m.place {
		return api.Reply{Status: 500}
	}
	m.place = at
	switch c.Op {
	case api.OpNone:
		return api.Reply{Status: 200}
	case api.OpOpen:
		if all := m.rows(); len(all) == 8 {
			first := slices.MinFunc(all, func(a, b rowRecord) int { return cmp.Or(cmp.Compare(a.used, b.used), cmp.Compare(a.id, b.id)) })
			m.happened = append(m.happened, happened{id: int(first.id), forgotten: true})
		}
		m.happened = append(m.happened, happened{id: at, at: at})
		return api.Reply{Status: 200, Tag: at}
	case api.OpMake, api.OpDrop, api.OpPut, api.OpDelete, api.OpTrim:
		if c.Session != 0 {
			return m.write(c)
		}
	}
	return m.shelf.Do(c)
}

// write is what a write in a session must be answered.
func (m *model) write(c api.Command) api.Reply {
	there := slices.ContainsFunc(m.rows(), func(x rowRecord) bool { return x.id == uint64(c.Session) })
	switch {
	case c.Seq > 1<<62:
		return api.Reply{Status: 400}
	case !there:
		return api.Reply{Status: 403}
	}
	var last happened
	for _, h := range m.happened {
		if h.id == c.Session {
			last = h
		}
	}
	switch {
	case c.Seq <= 0 || c.Seq < last.seq:
		return api.Reply{Status: 409}
	case c.Seq == last.seq:
		return last.reply
	}
	r := m.shelf.Do(c)
	m.happened = append(m.happened, happened{id: c.Session, seq: c.Seq, at: m.place, reply: r})
	return r
}

// ops are the operations that are drawn, those more often that matter more.
var ops = []api.Op{1, 1, 1, 2, 3, 3, 3, 3, 3, 3, 3, 4, 4, 4, 5, 6, 6, 7, 8, 9, 10, 10, 10, 11, 0, 12}

// draw is a command drawn among what lies near what the model has.
func (m *model) draw(d *trial.Draws) api.Command {
	c := api.Command{Op: ops[d.Below(len(ops))], Book: d.Of("a", "a", "a", "b", "b", "c", ".."), Name: d.Of("x", "y", "z", "."), Data: d.Of(jo, jo, joPrinted, "none")}
	if c.Op == api.OpDrop && d.Below(3) > 0 {
		c.Op = api.OpPut
	}
	c.Match = d.Of("", "", "", "*", `"`+strconv.Itoa(1+m.shelf.Change())+`"`, "x")
	c.None = d.Of("", "", "", "", "*")
	c.Token = d.Of("", fmt.Sprintf("urn:calepin:1.%d", 1+d.Below(m.shelf.Change()+1)), "x")
	c.Names, c.At = []string{"x", d.Of("y", "none")}, m.shelf.Change()-d.Below(5)
	all := m.rows()
	switch n := d.Below(10); {
	case n < 7 && len(all) > 0:
		x := all[d.Below(len(all))]
		c.Session, c.Seq = int(x.id), int(x.last)+d.Below(5)-2
	case n < 8:
		c.Session, c.Seq = m.place-d.Below(40), d.Below(5)
	}
	if d.Below(50) == 0 {
		c.Seq = edges[d.Below(len(edges))]
	}
	return c
}

// drawPlace is a place for the next command, mostly the next one.
func (m *model) drawPlace(d *trial.Draws) int {
	return m.place + []int{1, 1, 1, 1, 1, 1, 1, 1, 2, 5, 0, -1, -m.place}[d.Below(13)]
}

// P14.1, P14.2: long rows of drawn commands, each answered as the model does, and the bytes are the model's; a machine loaded from them, or copied, goes on in the same way.
func TestAsModel(t *testing.T) {
	counts := map[string]int{}
	for seed := range 100 {
		d := trial.Draws(seed)
		m, b := &model{shelf: book.New()}, New()
		for range 300 {
			at, c := m.drawPlace(&d), m.draw(&d)
			want, got := m.apply(at, c), b.Apply(at, c)
			if !same(got, want) {
				t.Fatalf("seed %d: Apply(%d, %v):\n%v, want\n%v", seed, at, c, got, want)
			}
			counts[fmt.Sprint(c.Op, want.Status)]++
			is(t, b, m.record())
			switch d.Below(10) {
			case 0:
				b = b.Copy()
			case 1:
				b = loaded(t, b.Form())
			case 2:
				b.Peek(m.draw(&d))
			}
			if t.Failed() {
				t.Fatalf("seed %d", seed)
			}
		}
	}
	for _, sort := range []string{
		"1 201", "1 405", "1 403", "1 409", "1 500", "2 204", "2 404", "3 201", "3 204", "3 412", "3 400", "3 403", "3 409", "4 204", "4 404", "4 412",
		"5 200", "5 404", "6 207", "7 207", "7 403", "8 207", "9 204", "9 403", "9 409", "10 200", "10 500", "11 200", "0 400", "12 400",
	} {
		if counts[sort] < 20 {
			t.Errorf("%s only %d times: %v", sort, counts[sort], counts)
		}
	}
}

// loaded asks that bytes are a machine's, and that they are its own.
func loaded(t *testing.T, b []byte) *Machine {
	t.Helper()
	m, e := Load(b)
	if e != api.OK || string(m.Form()) != string(b) {
		t.Fatalf("Load of a machine's bytes: %d", e)
	}
	return m
}

// P14.3: machines that applied the same commands at the same places answer the same and are the same, whatever else was asked of them: one is asked too late again and again, one is peeked into, one is copied, one is loaded anew, one began from another one's bytes.
func TestSame(t *testing.T) {
	for seed := range 50 {
		d := trial.Draws(seed)
		m := &model{shelf: book.New()}
		all := []*Machine{New(), New(), New(), New(), New()}
		for i := range 300 {
			at, c := m.place+1+d.Below(2), m.draw(&d)
			want := m.apply(at, c)
			for j, b := range all {
				if got := b.Apply(at, c); !same(got, want) {
					t.Fatalf("seed %d: the machine %d: Apply(%d, %v):\n%v, want\n%v", seed, j, at, c, got, want)
				}
			}
			all[1].Apply(m.place-d.Below(5), m.draw(&d))
			all[2].Peek(m.draw(&d))
			all[3] = all[3].Copy()
			all[4] = loaded(t, all[i%4].Form())
			for j, b := range all {
				if b.At() != at || string(b.Form()) != string(all[0].Form()) {
					t.Fatalf("seed %d: the machine %d is another one behind %v", seed, j, c)
				}
			}
		}
	}
}

// P14.3, and P3 as far as this layer goes: clients that send their writes again and again, in any order. Each is done at most once; whoever asks again is told the same, until a later one of the session is done, or the session is gone.
func TestOnce(t *testing.T) {
	counts := map[string]int{}
	for seed := range 100 {
		d := trial.Draws(seed)
		m := New()
		m.Apply(1, makes("a", 0, 0))
		var sent []api.Command
		told, latest := map[[2]int]api.Reply{}, map[int]int{}
		for at := 2; at < 400; at++ {
			if at%37 == 2 {
				applies(t, m, at, opens(), api.Reply{Status: 200, Tag: at})
				continue
			}
			c := puts(d.Of("x", "y", "z"), 2+37*d.Below(at/37+1), 1+at/20+d.Below(3))
			c.Op = []api.Op{api.OpPut, api.OpPut, api.OpDelete, api.OpTrim, api.OpMake}[d.Below(5)]
			if len(sent) > 0 && d.Below(3) > 0 {
				c = sent[max(0, len(sent)-1-d.Below(20))]
			}
			sent = append(sent, c)
			request := [2]int{c.Session, c.Seq}
			was := recordedOf(t, m)
			there := slices.ContainsFunc(was.rows, func(x rowRecord) bool { return x.id == uint64(c.Session) })
			r := m.Apply(at, c)
			before, done := told[request]
			changed := behind(m) != string(was.bytes()[8:])
			switch {
			case !there:
				if changed || !same(r, api.Reply{Status: 403}) {
					t.Fatalf("seed %d: %v without a session: %v", seed, c, r)
				}
				counts["none"]++
			case c.Seq < latest[c.Session]:
				if changed || !same(r, api.Reply{Status: 409}) {
					t.Fatalf("seed %d: %v, which is old: %v", seed, c, r)
				}
				counts["old"]++
			case done:
				if changed || !same(r, before) {
					t.Fatalf("seed %d: %v again: %v, want %v", seed, c, r, before)
				}
				counts["again"]++
			default:
				told[request], latest[c.Session] = r, c.Seq
				counts["done"]++
			}
		}
	}
	for _, sort := range []string{"none", "old", "again", "done"} {
		if counts[sort] < 500 {
			t.Errorf("too few of a sort: %v", counts)
		}
	}
}
