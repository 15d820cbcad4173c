// Package lay has numbers, texts, flags, lists and replies as bytes: laid one behind the other, and read again. The layers that keep or send bytes share it.
package lay

import (
	"math"

	"calepin/api"
)

// Writer lays bytes one behind the other. The zero one has none yet.
type Writer struct {
	laid []byte
}

// Bytes is all that was laid.
func (w *Writer) Bytes() []byte {
	return w.laid
}

// Byte lays one byte.
func (w *Writer) Byte(n byte) {
	w.laid = append(w.laid, n)
}

// Number lays a number modulo 2^64: eight bytes, the greatest first.
func (w *Writer) Number(n int) {
	for shift := 56; shift >= 0; shift -= 8 {
		w.Byte(byte(uint64(n) >> shift))
	}
}

// Numbers lays each of them.
func (w *Writer) Numbers(all ...int) {
	for _, n := range all {
		w.Number(n)
	}
}

// Text lays a text: its length and its bytes.
func (w *Writer) Text(t string) {
	w.Number(len(t))
	w.laid = append(w.laid, t...)
}

// Texts lays each of them.
func (w *Writer) Texts(all ...string) {
	for _, t := range all {
		w.Text(t)
	}
}

// Flag lays one byte: 1, if yes, else 0.
func (w *Writer) Flag(yes bool) {
	if yes {
		w.Byte(1)
	} else {
		w.Byte(0)
	}
}

// List lays a list: how many, and each as put lays it.
func List[T any](w *Writer, all []T, put func(T)) {
	w.Number(len(all))
	for _, x := range all {
		put(x)
	}
}

// Reply lays a reply.
func (w *Writer) Reply(r api.Reply) {
	w.Numbers(r.Status, r.Tag)
	w.Text(r.Data)
	List(w, r.Entries, w.entry)
	w.Text(r.Token)
}

// entry lays an entry of a reply.
func (w *Writer) entry(x api.Entry) {
	w.Text(x.Name)
	w.Number(x.Tag)
	w.Text(x.Data)
	w.Flag(x.Gone)
}

// Reader reads bytes from the front on. It never stops for a fault: what it answers behind one doesn't count, and End tells which it was.
type Reader struct {
	left         []byte
	short, wrong bool
}

// Of is a reader of b, which it reads and doesn't change.
func Of(b []byte) *Reader {
	return &Reader{left: b}
}

// Number is a number of eight bytes, which must be from low to high.
func (r *Reader) Number(low, high int) int {
	n := r.word()
	if n > math.MaxInt || int(n) < low || int(n) > high {
		r.wrong = true
		return 0
	}
	return int(n)
}

// Whole is a number of eight bytes, whichever: the one that was laid so.
func (r *Reader) Whole() int {
	return int(r.word())
}

// Count is how many things stand behind: no more than there are bytes, so that a loop over them always ends.
func (r *Reader) Count() int {
	n := r.word()
	if n > uint64(len(r.left)) {
		r.end()
		return 0
	}
	return int(n)
}

// Text is a text, in new memory.
func (r *Reader) Text() string {
	return string(r.take(r.Count()))
}

// Byte is one byte.
func (r *Reader) Byte() byte {
	b := r.take(1)
	if b == nil {
		return 0
	}
	return b[0]
}

// Flag is a byte that must be 1 or 0: is it 1?
func (r *Reader) Flag() bool {
	b := r.Byte()
	r.Need(b <= 1)
	return b == 1
}

// Listed is a list: how many, and each as get reads it. Where the bytes end too early it stops, however many there should be.
func Listed[T any](r *Reader, get func() T) []T {
	var all []T
	for range r.Count() {
		if r.short {
			break
		}
		all = append(all, get())
	}
	return all
}

// Reply is a reply, whose numbers are read by number: which ones may be is its caller's to say.
func (r *Reader) Reply(number func() int) api.Reply {
	entry := func() api.Entry {
		return api.Entry{Name: r.Text(), Tag: number(), Data: r.Text(), Gone: r.Flag()}
	}
	return api.Reply{Status: number(), Tag: number(), Data: r.Text(), Entries: Listed(r, entry), Token: r.Text()}
}

// Need says that what was read isn't formed as it must be, unless right.
func (r *Reader) Need(right bool) {
	r.wrong = r.wrong || !right
}

// End tells of all that was read the first of ErrShort: the bytes ended too early; ErrTrail: some are left; ErrForm.
func (r *Reader) End() api.Errno {
	switch {
	case r.short:
		return api.ErrShort
	case len(r.left) > 0:
		return api.ErrTrail
	case r.wrong:
		return api.ErrForm
	}
	return api.OK
}

// word is a number of eight bytes.
func (r *Reader) word() uint64 {
	var n uint64
	for _, b := range r.take(8) {
		n = n<<8 | uint64(b)
	}
	return n
}

// take is the next n bytes: none, if there aren't so many.
func (r *Reader) take(n int) []byte {
	if n > len(r.left) {
		r.end()
		return nil
	}
	b := r.left[:n]
	r.left = r.left[n:]
	return b
}

// end says that the bytes ended too early. None are left, so that all that is read behind it ends too early as well.
func (r *Reader) end() {
	r.short, r.left = true, nil
}
