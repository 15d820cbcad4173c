package trial

import (
	"strconv"

	"calepin/api"
)

// PutNumber is b with n behind it, in eight bytes, the greatest first.
func PutNumber(b []byte, n uint64) []byte {
	return append(b, byte(n>>56), byte(n>>48), byte(n>>40), byte(n>>32), byte(n>>24), byte(n>>16), byte(n>>8), byte(n))
}

// PutText is b with s behind it: its length and its bytes.
func PutText(b []byte, s string) []byte {
	return append(PutNumber(b, uint64(len(s))), s...)
}

// Scan reads bytes from the front on. It gives up by a panic where they end too early.
type Scan struct{ left []byte }

// Bytes is the next n bytes.
func (s *Scan) Bytes(n uint64) []byte {
	if n > uint64(len(s.left)) {
		panic(api.ErrShort)
	}
	b := s.left[:n]
	s.left = s.left[n:]
	return b
}

// Number is a number of eight bytes.
func (s *Scan) Number() uint64 {
	var n uint64
	for _, b := range s.Bytes(8) {
		n = 256*n + uint64(b)
	}
	return n
}

// Text is a text behind its length.
func (s *Scan) Text() string {
	return string(s.Bytes(s.Number()))
}

// Each calls do as often as a count says, which may not be above the number of bytes behind it.
func (s *Scan) Each(do func()) {
	n := s.Number()
	if n > uint64(len(s.left)) {
		panic(api.ErrShort)
	}
	for range n {
		do()
	}
}

// Scanned calls read to read all of b, and tells how that ended: api.ErrShort, api.ErrTrail, or api.OK.
func Scanned(b []byte, read func(*Scan)) (e api.Errno) {
	defer func() {
		switch x := recover().(type) {
		case nil:
		case api.Errno:
			e = x
		default:
			panic(x)
		}
	}()
	s := &Scan{b}
	read(s)
	if len(s.left) > 0 {
		return api.ErrTrail
	}
	return api.OK
}

// Spoilt is b anew with one to three bytes put for others, and every other time cut off.
func (d *Draws) Spoilt(b []byte) []byte {
	c := append([]byte(nil), b...)
	for range 1 + d.Below(3) {
		c[d.Below(len(c))] = byte(d.Below(10) * d.Below(29))
	}
	return c[:len(c)-d.Below(2)*d.Below(len(c))]
}

// Formed is what is made of bytes, and tells them again.
type Formed interface {
	comparable
	Form() []byte
}

// Loads asks that load answers just this error, or what has just these bytes, and leaves them as they are. It tells in words what is wrong, or nothing.
func Loads[T Formed](load func([]byte) (T, api.Errno), b []byte, want api.Errno) string {
	var none T
	was := string(b)
	x, e := load(b)
	switch {
	case e != want:
		return strconv.Itoa(int(e)) + ", want " + strconv.Itoa(int(want))
	case (x == none) != (e != api.OK):
		return "something beside an error, or nothing without one"
	case string(b) != was:
		return "the bytes were changed"
	case x != none && string(x.Form()) != was:
		return "other bytes"
	}
	return ""
}
