package book

import (
	"calepin/api"
	"calepin/lay"
	"calepin/path"
)

// greatest is the greatest number that a shelf's bytes may have.
const greatest = 1 << 62

// Form is the shelf's bytes.
func (s *Shelf) Form() []byte {
	return putNamed(lay.Number(nil, s.change), s.books, putBook)
}

// putNamed is b with a map behind it: how many, and by name each name and what put lays of it.
func putNamed[T any](b []byte, named map[string]T, put func([]byte, T) []byte) []byte {
	b = lay.Number(b, len(named))
	for _, name := range names(named) {
		b = put(lay.Text(b, name), named[name])
	}
	return b
}

// putBook is b with a collection behind it.
func putBook(b []byte, c *collection) []byte {
	b = lay.Number(b, c.made)
	b = lay.Number(b, c.horizon)
	b = putNamed(b, c.cards, putCard)
	b = lay.Number(b, len(c.journal))
	for _, x := range c.journal {
		b = lay.Number(b, x.at)
		b = lay.Text(b, x.name)
		b = lay.Flag(b, x.was)
	}
	return b
}

// putCard is b with a card behind it.
func putCard(b []byte, k kept) []byte {
	return lay.Text(lay.Number(b, k.tag), k.text)
}

// Load is the shelf of these bytes: else the first of ErrShort, ErrTrail, ErrForm.
func Load(b []byte) (*Shelf, api.Errno) {
	r := lay.Of(b)
	s := New()
	s.change = r.Number(0, greatest)
	s.books = getNamed(r, api.MaxBooks, func() *collection { return getBook(r, s.change) })
	if e := r.End(); e != api.OK {
		return nil, e
	}
	return s, api.OK
}

// getNamed is a map of at most so many: how many, and by name each name and what get reads of it.
func getNamed[T any](r *lay.Reader, most int, get func() T) map[string]T {
	n := r.Count()
	r.Need(n <= most)
	named, last := map[string]T{}, ""
	for range n {
		name := getName(r)
		r.Need(name > last)
		named[name], last = get(), name
	}
	return named
}

// getName is a name for which a segment stands.
func getName(r *lay.Reader) string {
	name := r.Text()
	_, e := path.Segment(name)
	r.Need(e == api.OK)
	return name
}

// getBook is a collection of a shelf whose last change that is.
func getBook(r *lay.Reader, last int) *collection {
	var c collection
	c.made = r.Number(1, last)
	c.horizon = r.Number(c.made, last)
	c.cards = getNamed(r, api.MaxCards, func() kept { return getCard(r, c.made+1, last) })
	c.journal = getJournal(r, c.horizon, last)
	return &c
}

// getCard is a card whose tag is from low to high.
func getCard(r *lay.Reader, low, high int) kept {
	k := kept{tag: r.Number(low, high), text: r.Text()}
	text, e := canonical(k.text)
	r.Need(e == api.OK && text == k.text)
	return k
}

// getJournal is the changes above a horizon, up to a shelf's last one.
func getJournal(r *lay.Reader, horizon, last int) []change {
	n := r.Count()
	r.Need(n <= api.MaxChanges)
	var journal []change
	for range n {
		x := change{at: r.Number(horizon+1, last), name: getName(r), was: r.Flag()}
		journal = append(journal, x)
		horizon = x.at
	}
	return journal
}
