package lay

import (
	"encoding/binary"
	"math"
	"reflect"
	"slices"
	"testing"

	"calepin/api"
)

// laid is what put lays.
func laid(put func(w *Writer)) []byte {
	var w Writer
	put(&w)
	return w.Bytes()
}

// number is a number's bytes.
func number(n int) []byte {
	return laid(func(w *Writer) { w.Number(n) })
}

// text is a text's bytes.
func text(t string) []byte {
	return laid(func(w *Writer) { w.Text(t) })
}

// Numbers in eight bytes, texts behind their length, bytes and flags in one byte, each behind what stood there.
func TestLaid(t *testing.T) {
	for _, n := range []int{0, 1, 255, 256, 1<<32 - 1, 1 << 62, math.MaxInt, -1, math.MinInt} {
		got := laid(func(w *Writer) { w.Byte('x'); w.Number(n); w.Numbers(n, 7); w.Numbers() })
		want := binary.BigEndian.AppendUint64(binary.BigEndian.AppendUint64([]byte("x"), uint64(n)), uint64(n))
		if want = append(want, 0, 0, 0, 0, 0, 0, 0, 7); string(got) != string(want) {
			t.Errorf("numbers %d: %q, want %q", n, got, want)
		}
	}
	for _, x := range []struct {
		want string
		put  func(w *Writer)
	}{
		{"", func(w *Writer) {}},
		{"x\x00\x00\x00\x00\x00\x00\x00\x02ab", func(w *Writer) { w.Byte('x'); w.Text("ab") }},
		{"\x00\x00\x00\x00\x00\x00\x00\x01a\x00\x00\x00\x00\x00\x00\x00\x00", func(w *Writer) { w.Texts("a", ""); w.Texts() }},
		{"\x01\x00", func(w *Writer) { w.Flag(true); w.Flag(false) }},
		{"\xff\x00", func(w *Writer) { w.Byte(255); w.Byte(0) }},
	} {
		if got := string(laid(x.put)); got != x.want {
			t.Errorf("laid %q, want %q", got, x.want)
		}
	}
}

// What was laid is read again, and then nothing is left.
func TestRead(t *testing.T) {
	b := laid(func(w *Writer) { w.Numbers(7, -7, 2); w.Text("ab"); w.Flag(true); w.Byte(255) })
	r := Of(b)
	if n := r.Number(7, 7); n != 7 {
		t.Errorf("number %d", n)
	}
	if n := r.Whole(); n != -7 {
		t.Errorf("whole %d", n)
	}
	if n := r.Count(); n != 2 {
		t.Errorf("count %d", n)
	}
	if s := r.Text(); s != "ab" {
		t.Errorf("text %q", s)
	}
	if !r.Flag() || r.Byte() != 255 || r.End() != api.OK {
		t.Errorf("flag, byte or end: %d", r.End())
	}
	if e := Of(nil).End(); e != api.OK {
		t.Errorf("nothing: %d", e)
	}
}

// What was read stays, whatever becomes of the bytes.
func TestReadIsNew(t *testing.T) {
	b := text("ab")
	s := Of(b).Text()
	clear(b)
	if s != "ab" {
		t.Errorf("read %q", s)
	}
}

// Each number is read as it was laid, and needs eight bytes.
func TestWhole(t *testing.T) {
	for _, n := range []int{0, 1, -1, 1 << 62, math.MaxInt, math.MinInt} {
		ends(t, "whole", number(n), func(r *Reader) {
			if m := r.Whole(); m != n {
				t.Errorf("%d, want %d", m, n)
			}
		}, api.OK)
	}
	whole := func(r *Reader) {
		if n := r.Whole(); n != 0 {
			t.Errorf("%d of too few bytes", n)
		}
	}
	ends(t, "seven bytes", []byte("abcdefg"), whole, api.ErrShort)
	ends(t, "nine bytes", make([]byte, 9), whole, api.ErrTrail)
	ends(t, "no byte", nil, func(r *Reader) {
		if b := r.Byte(); b != 0 {
			t.Errorf("byte %d of none", b)
		}
	}, api.ErrShort)
}

// ends asks how reading b ends.
func ends(t *testing.T, what string, b []byte, read func(r *Reader), want api.Errno) {
	t.Helper()
	r := Of(b)
	read(r)
	if e := r.End(); e != want {
		t.Errorf("%s: %d, want %d", what, e, want)
	}
}

// A number must lie between its bounds, both of which it may be.
func TestNumberBounds(t *testing.T) {
	for _, x := range []struct {
		n, low, high int
		want         api.Errno
	}{
		{5, 5, 5, api.OK}, {5, 0, 1 << 62, api.OK}, {1 << 62, 0, 1 << 62, api.OK}, {0, 0, 0, api.OK}, {math.MaxInt, 0, math.MaxInt, api.OK},
		{4, 5, 9, api.ErrForm}, {10, 5, 9, api.ErrForm}, {1<<62 + 1, 0, 1 << 62, api.ErrForm}, {-1, 0, 1 << 62, api.ErrForm}, {-1, -5, 5, api.ErrForm}, {math.MinInt, math.MinInt, 5, api.ErrForm}, {7, 9, 5, api.ErrForm},
	} {
		ends(t, "number", number(x.n), func(r *Reader) {
			if n := r.Number(x.low, x.high); x.want == api.OK && n != x.n {
				t.Errorf("%d, want %d", n, x.n)
			}
		}, x.want)
	}
	flag := func(r *Reader) { r.Flag() }
	ends(t, "flag 0", []byte{0}, flag, api.OK)
	ends(t, "flag 1", []byte{1}, flag, api.OK)
	ends(t, "flag 2", []byte{2}, flag, api.ErrForm)
	ends(t, "flag 255", []byte{255}, flag, api.ErrForm)
}

// The first of the three errors, whichever fault came first; and behind a short end nothing is there.
func TestEnd(t *testing.T) {
	nine := func(r *Reader) { r.Number(0, 9) }
	words := func(r *Reader) { r.Text() }
	ends(t, "seven bytes", make([]byte, 7), nine, api.ErrShort)
	ends(t, "nine bytes", make([]byte, 9), nine, api.ErrTrail)
	ends(t, "wrong", number(10), nine, api.ErrForm)
	ends(t, "wrong, left", append(number(10), 0), nine, api.ErrTrail)
	ends(t, "wrong, short", number(10), func(r *Reader) { nine(r); nine(r) }, api.ErrShort)
	ends(t, "no flag", nil, func(r *Reader) { r.Flag() }, api.ErrShort)
	ends(t, "text", text("ab"), words, api.OK)
	ends(t, "short text", text("ab")[:9], words, api.ErrShort)
	ends(t, "longest", number(-1), words, api.ErrShort)
	ends(t, "needed", nil, func(r *Reader) { r.Need(true); r.Need(false); r.Need(true) }, api.ErrForm)
	ends(t, "as many as bytes", append(number(1), 0), func(r *Reader) {
		if n := r.Count(); n != 1 {
			t.Errorf("count %d", n)
		}
		r.Flag()
	}, api.OK)
	ends(t, "more than bytes", append(number(2), 0), func(r *Reader) {
		if n := r.Count(); n != 0 || r.Flag() || r.Text() != "" || r.Count() != 0 {
			t.Errorf("something behind the end, count %d", n)
		}
	}, api.ErrShort)
}

// A list is how many and each, and is read so.
func TestList(t *testing.T) {
	for _, all := range [][]int{nil, {7}, {7, 8, 7}} {
		b := laid(func(w *Writer) { List(w, all, w.Number) })
		want := laid(func(w *Writer) { w.Number(len(all)); w.Numbers(all...) })
		if string(b) != string(want) {
			t.Errorf("List %d: %q, want %q", all, b, want)
		}
		ends(t, "list", b, func(r *Reader) {
			if got := Listed(r, func() int { return r.Number(7, 8) }); !slices.Equal(got, all) {
				t.Errorf("Listed %d, want %d", got, all)
			}
		}, api.OK)
	}
}

// A list that is too short is read to the end of the bytes, and not further.
func TestListedShort(t *testing.T) {
	for n, want := range []api.Errno{api.OK, api.OK, api.OK, api.ErrShort, api.ErrShort, api.ErrShort} {
		calls := 0
		ends(t, "list", append(number(n), make([]byte, 8*min(n, 2))...), func(r *Reader) {
			Listed(r, func() int { calls++; return r.Number(0, 0) })
		}, want)
		if calls > 3 {
			t.Errorf("%d calls for two numbers", calls)
		}
	}
	ends(t, "more than bytes", number(1<<62), func(r *Reader) {
		if got := Listed(r, func() int { t.Errorf("called"); return 0 }); len(got) != 0 {
			t.Errorf("Listed %d", got)
		}
	}, api.ErrShort)
}

// A reply is its fields one behind the other, and is read again by numbers of any bounds.
func TestReply(t *testing.T) {
	full := api.Reply{Status: 207, Tag: 1 << 62, Data: "d", Entries: []api.Entry{{Name: "n", Tag: 3, Data: "m"}, {Gone: true}}, Token: "t"}
	b := slices.Concat(number(207), number(1<<62), text("d"), number(2), text("n"), number(3), text("m"), []byte{0}, text(""), number(0), text(""), []byte{1}, text("t"))
	if got := laid(func(w *Writer) { w.Reply(full) }); string(got) != string(b) {
		t.Errorf("Reply: %q, want %q", got, b)
	}
	for _, want := range []api.Reply{full, {}, {Status: -1, Tag: math.MinInt}} {
		ends(t, "reply", laid(func(w *Writer) { w.Reply(want) }), func(r *Reader) {
			if got := r.Reply(r.Whole); !reflect.DeepEqual(got, want) {
				t.Errorf("%v, want %v", got, want)
			}
		}, api.OK)
	}
	bounds := func(high int) func(r *Reader) {
		return func(r *Reader) { r.Reply(func() int { return r.Number(0, high) }) }
	}
	ends(t, "the greatest number", b, bounds(1<<62), api.OK)
	ends(t, "a number too great", b, bounds(1<<62-1), api.ErrForm)
	for n := range b {
		ends(t, "short reply", b[:n], bounds(1<<62), api.ErrShort)
	}
}
