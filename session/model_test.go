package session

import (
	"cmp"
	"fmt"
	"slices"
	"strconv"
	"testing"

	"calepin/api"
	"calepin/trial"
)

// happened is something in a session: that it was opened (seq is 0), that a number was done, or that it was forgotten.
type happened struct {
	id, seq, now int
	x            string
	forgotten    bool
}

// model of a table: an oracle of another make than the package's. It has all that happened, and works out each answer from that.
type model []happened

// rows is what the table's must be: sessions that were opened and not forgotten since, with their greatest number and latest use.
func (m model) rows() []row {
	var all []row
	for _, h := range m {
		i, there := slices.BinarySearchFunc(all, h.id, func(r row, id int) int { return cmp.Compare(r.Id, id) })
		switch {
		case h.forgotten:
			all = slices.Delete(all, i, i+1)
		case !there:
			all = slices.Insert(all, i, row{Id: h.id, Used: h.now})
		default:
			all[i] = row{Id: h.id, Last: max(all[i].Last, h.seq), Used: max(all[i].Used, h.now), X: h.x}
		}
	}
	return all
}

// latest is the greatest of all numbers and uses of the sessions.
func (m model) latest() int {
	n := 0
	for _, r := range m.rows() {
		n = max(n, r.Id, r.Used)
	}
	return n
}

// open is what Open must answer.
func (m *model) open(now int) bool {
	if now <= m.latest() {
		return false
	}
	if all := m.rows(); len(all) == 8 {
		slices.SortFunc(all, func(r, s row) int { return cmp.Or(cmp.Compare(r.Used, s.Used), cmp.Compare(r.Id, s.Id)) })
		*m = append(*m, happened{id: all[0].Id, forgotten: true})
	}
	*m = append(*m, happened{id: now, now: now})
	return true
}

// ask is what Ask must answer.
func (m model) ask(id, seq int) (api.Verdict, string) {
	for _, r := range m.rows() {
		switch {
		case r.Id != id:
		case seq > r.Last:
			return api.Fresh, ""
		case seq < r.Last || seq <= 0:
			return api.Old, ""
		default:
			return api.Again, r.X
		}
	}
	return api.NoSession, ""
}

// done is what Done must answer.
func (m *model) done(id, seq, now int, x string) bool {
	if v, _ := m.ask(id, seq); v != api.Fresh || slices.ContainsFunc(m.rows(), func(r row) bool { return now < r.Used }) {
		return false
	}
	*m = append(*m, happened{id: id, seq: seq, now: now, x: x})
	return true
}

// agrees asks that a table has what the model has.
func (m model) agrees(t *testing.T, b *Table[string], what string) {
	t.Helper()
	if got, want := b.Rows(), m.rows(); !slices.Equal(got, want) {
		t.Fatalf("%s: %v, want %v", what, got, want)
	}
}

// tree does each call of few numbers to a table, and then each call behind those that did something, so many of them deep.
func tree(t *testing.T, rows []row, m model, deep int) int {
	m.agrees(t, table(t, rows...), "set")
	for id := range 5 {
		for seq := -1; seq <= 3; seq++ {
			v, x := m.ask(id, seq)
			asks(t, table(t, rows...), id, seq, v, x)
		}
	}
	if deep == 0 {
		return 1
	}
	count := 0
	try := func(what string, call func(*Table[string]) bool, want func(*model) bool) {
		b, n := table(t, rows...), slices.Clone(m)
		did := want(&n)
		if got := call(b); got != did {
			t.Fatalf("%s of %v: %v", what, rows, got)
		}
		n.agrees(t, b, what)
		if did {
			count += tree(t, b.Rows(), n, deep-1)
		}
	}
	for now := range 6 {
		try("Open "+strconv.Itoa(now), func(b *Table[string]) bool { return b.Open(now) }, func(n *model) bool { return n.open(now) })
		for id := range 4 {
			for seq := -1; seq <= 2; seq++ {
				x := fmt.Sprint(id, seq, now)
				try("Done "+x, func(b *Table[string]) bool { return b.Done(id, seq, now, x) }, func(n *model) bool { return n.done(id, seq, now, x) })
			}
		}
	}
	return count
}

// P13.1 to P13.4: all rows of five calls of small numbers.
func TestTree(t *testing.T) {
	if n := tree(t, nil, nil, 5); n < 1000 {
		t.Errorf("only %d rows of calls", n)
	}
}

// P13.1 to P13.4: long rows of drawn calls, whose time goes on slowly, so that many uses are the same ones; a table that is set from another one's rows goes on in the same way.
func TestAsModel(t *testing.T) {
	counts := map[string]int{}
	for seed := range 200 {
		d := trial.Draws(seed)
		b, m, now := &Table[string]{}, model(nil), 1
		for range 150 {
			now += []int{0, 0, 0, 1, 1, 3}[d.Below(6)]
			then := now - []int{0, 0, 0, 0, 1, 2}[d.Below(6)]
			id, seq := now-d.Below(25), d.Below(6)
			if all := b.Rows(); len(all) > 0 && d.Below(8) > 0 {
				r := all[d.Below(len(all))]
				id, seq = r.Id, r.Last+d.Below(5)-2
			}
			v, x := m.ask(id, seq)
			asks(t, b, id, seq, v, x)
			counts[fmt.Sprint("ask ", v)]++
			x = strconv.Itoa(d.Below(1000))
			switch d.Below(8) {
			case 0, 1, 2:
				did, many := m.open(then), len(b.Rows())
				opens(t, b, then, did)
				counts[fmt.Sprint("open ", did, many == 8)]++
			case 3:
				b = table(t, b.Rows()...)
			default:
				did := m.done(id, seq, then, x)
				dones(t, b, id, seq, then, x, did)
				counts[fmt.Sprint("done ", did)]++
			}
			m.agrees(t, b, "rows")
			if t.Failed() {
				t.Fatalf("seed %d", seed)
			}
		}
	}
	for _, sort := range []string{"ask 0", "ask 1", "ask 2", "ask 3", "open true true", "open true false", "open false true", "open false false", "done true", "done false"} {
		if counts[sort] < 200 {
			t.Errorf("%s only %d times: %v", sort, counts[sort], counts)
		}
	}
}

// request is one of a client's, which it may send often.
type request struct{ id, seq int }

// P3, as far as this layer goes: whoever does only what is fresh does no request twice, and tells whoever asks again the same, until a later one was done or the session is gone.
func TestOnce(t *testing.T) {
	sorts := map[api.Verdict]int{}
	for seed := range 100 {
		d := trial.Draws(seed)
		var b Table[string]
		var sent []request
		did, later, opened := map[request]string{}, map[int]int{}, 0
		for now := 1; now <= 300; now++ {
			if now%23 == 1 {
				opens(t, &b, now, true)
				opened = now
			}
			r := request{id: max(1, opened-23*d.Below(10)), seq: 1 + now/10 + d.Below(3)}
			if len(sent) > 0 && d.Below(3) > 0 {
				r = sent[max(0, len(sent)-1-d.Below(20))]
			}
			sent = append(sent, r)
			v, x := b.Ask(r.id, r.seq)
			sorts[v]++
			told, done := did[r]
			there := slices.Contains(ids(&b), r.id)
			switch {
			case (v == api.NoSession) == there:
				t.Fatalf("seed %d: session %d is there: %v", seed, r.id, there)
			case v == api.Fresh && done:
				t.Fatalf("seed %d: %v is done twice", seed, r)
			case v == api.Again && (!done || x != told):
				t.Fatalf("seed %d: %v: %q, want %q", seed, r, x, told)
			case v == api.Old && later[r.id] <= r.seq:
				t.Fatalf("seed %d: %v is old, and nothing was done behind it", seed, r)
			case v == api.Fresh:
				did[r], later[r.id] = strconv.Itoa(now), r.seq
				dones(t, &b, r.id, r.seq, now, did[r], true)
			}
		}
	}
	for _, v := range []api.Verdict{api.NoSession, api.Fresh, api.Again, api.Old} {
		if sorts[v] < 500 {
			t.Errorf("verdict %d only %d times", v, sorts[v])
		}
	}
}
