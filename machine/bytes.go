package machine

import (
	"calepin/api"
	"calepin/book"
	"calepin/lay"
)

// greatest is the greatest number that a session's request, and a machine's bytes, may have.
const greatest = 1 << 62

// row is a session, and what came of what was done last in it.
type row = api.Row[api.Reply]

// Form is the machine's bytes.
func (m *Machine) Form() []byte {
	var w lay.Writer
	w.Number(m.at)
	w.Text(string(m.shelf.Form()))
	lay.List(&w, m.sessions.Rows(), func(x row) {
		w.Numbers(x.Id, x.Last, x.Used)
		w.Reply(x.X)
	})
	return w.Bytes()
}

// Load is the machine of these bytes: else the first of ErrShort, ErrTrail, ErrForm.
func Load(b []byte) (*Machine, api.Errno) {
	r := lay.Of(b)
	m := &Machine{at: r.Number(0, greatest)}
	shelf, e := book.Load([]byte(r.Text()))
	r.Need(e == api.OK)
	rows := lay.Listed(r, func() row { return getRow(r, m.at) })
	r.Need(m.sessions.Set(rows...))
	if e := r.End(); e != api.OK {
		return nil, e
	}
	m.shelf = shelf
	return m, api.OK
}

// getRow is a session of a machine at that place.
func getRow(r *lay.Reader, at int) row {
	number := func() int { return r.Number(0, greatest) }
	return row{Id: number(), Last: number(), Used: r.Number(0, at), X: r.Reply(number)}
}
