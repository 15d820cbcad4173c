package book

import (
	"calepin/api"
	"calepin/lay"
	"calepin/path"
)

// greatest is the greatest number that a shelf's bytes may have.
const greatest = 1 << 62

// Form is the shelf's bytes.
func (s *Shelf) Form() []byte {
	var w lay.Writer
	w.Number(s.change)
	putNamed(&w, s.books, func(c *collection) { putBook(&w, c) })
	return w.Bytes()
}

// putNamed lays a map: how many, and by name each name and what put lays of it.
func putNamed[T any](w *lay.Writer, named map[string]T, put func(T)) {
	lay.List(w, names(named), func(name string) {
		w.Text(name)
		put(named[name])
	})
}

// putBook lays a collection.
func putBook(w *lay.Writer, c *collection) {
	w.Numbers(c.made, c.horizon)
	putNamed(w, c.cards, func(k kept) {
		w.Number(k.tag)
		w.Text(k.text)
	})
	lay.List(w, c.journal, func(x change) {
		w.Number(x.at)
		w.Text(x.name)
		w.Flag(x.was)
	})
}

// Load is the shelf of these bytes: else the first of ErrShort, ErrTrail, ErrForm.
func Load(b []byte) (*Shelf, api.Errno) {
	r := lay.Of(b)
	s := New()
	s.change = r.Number(0, greatest)
	s.books = getNamed(r, api.MaxBooks, func() *collection { return getBook(r, s.change) })
	if e := r.End(); e != api.OK {
		return nil, e
	}
	return s, api.OK
}

// getNamed is a map of at most so many: how many, and by name each name and what get reads of it.
func getNamed[T any](r *lay.Reader, most int, get func() T) map[string]T {
	n := r.Count()
	r.Need(n <= most)
	named, last := map[string]T{}, ""
	for range n {
		name := getName(r)
		r.Need(name > last)
		named[name], last = get(), name
	}
	return named
}

// getName is a name for which a segment stands.
func getName(r *lay.Reader) string {
	name := r.Text()
	_, e := path.Segment(name)
	r.Need(e == api.OK)
	return name
}

// getBook is a collection of a shelf whose last change that is.
func getBook(r *lay.Reader, last int) *collection {
	var c collection
	c.made = r.Number(1, last)
	c.horizon = r.Number(c.made, last)
	c.cards = getNamed(r, api.MaxCards, func() kept { return getCard(r, c.made+1, last) })
	c.journal = getJournal(r, c.horizon, last)
	return &c
}

// getCard is a card whose tag is from low to high.
func getCard(r *lay.Reader, low, high int) kept {
	k := kept{tag: r.Number(low, high), text: r.Text()}
	text, e := canonical(k.text)
	r.Need(e == api.OK && text == k.text)
	return k
}

// getJournal is the changes above a horizon, up to a shelf's last one.
func getJournal(r *lay.Reader, horizon, last int) []change {
	n := r.Count()
	r.Need(n <= api.MaxChanges)
	var journal []change
	for range n {
		x := change{at: r.Number(horizon+1, last), name: getName(r), was: r.Flag()}
		journal = append(journal, x)
		horizon = x.at
	}
	return journal
}
