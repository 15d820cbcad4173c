package lay

import (
	"encoding/binary"
	"math"
	"reflect"
	"slices"
	"testing"

	"calepin/api"
)

// Numbers in eight bytes, texts behind their length, flags in one byte, each behind what stood there.
func TestLaid(t *testing.T) {
	for _, n := range []int{0, 1, 255, 256, 1<<32 - 1, 1 << 62, math.MaxInt, -1, math.MinInt} {
		if got, want := string(Number([]byte("x"), n)), "x"+string(binary.BigEndian.AppendUint64(nil, uint64(n))); got != want {
			t.Errorf("Number %d: %q, want %q", n, got, want)
		}
	}
	if got := string(Text([]byte("x"), "ab")); got != "x\x00\x00\x00\x00\x00\x00\x00\x02ab" {
		t.Errorf("Text: %q", got)
	}
	if got := string(Flag(Flag(nil, true), false)); got != "\x01\x00" {
		t.Errorf("Flag: %q", got)
	}
}

// What was laid is read again, and then nothing is left.
func TestRead(t *testing.T) {
	b := Flag(Text(Number(Number(nil, 7), 2), "ab"), true)
	r := Of(b)
	if n := r.Number(7, 7); n != 7 {
		t.Errorf("number %d", n)
	}
	if n := r.Count(); n != 2 {
		t.Errorf("count %d", n)
	}
	if s := r.Text(); s != "ab" {
		t.Errorf("text %q", s)
	}
	if !r.Flag() || r.End() != api.OK {
		t.Errorf("flag or end: %d", r.End())
	}
	b[24] = 'x'
	if e := Of(nil).End(); e != api.OK {
		t.Errorf("nothing: %d", e)
	}
}

// ends asks how reading b ends.
func ends(t *testing.T, what string, b []byte, read func(r *Reader), want api.Errno) {
	t.Helper()
	r := Of(b)
	read(r)
	if e := r.End(); e != want {
		t.Errorf("%s: %d, want %d", what, e, want)
	}
}

// A number must lie between its bounds, both of which it may be.
func TestNumberBounds(t *testing.T) {
	for _, x := range []struct {
		n, low, high int
		want         api.Errno
	}{
		{5, 5, 5, api.OK}, {5, 0, 1 << 62, api.OK}, {1 << 62, 0, 1 << 62, api.OK}, {0, 0, 0, api.OK}, {math.MaxInt, 0, math.MaxInt, api.OK},
		{4, 5, 9, api.ErrForm}, {10, 5, 9, api.ErrForm}, {1<<62 + 1, 0, 1 << 62, api.ErrForm}, {-1, 0, 1 << 62, api.ErrForm}, {-1, -5, 5, api.ErrForm}, {math.MinInt, math.MinInt, 5, api.ErrForm}, {7, 9, 5, api.ErrForm},
	} {
		ends(t, "number", Number(nil, x.n), func(r *Reader) {
			if n := r.Number(x.low, x.high); x.want == api.OK && n != x.n {
				t.Errorf("%d, want %d", n, x.n)
			}
		}, x.want)
	}
	flag := func(r *Reader) { r.Flag() }
	ends(t, "flag 0", []byte{0}, flag, api.OK)
	ends(t, "flag 1", []byte{1}, flag, api.OK)
	ends(t, "flag 2", []byte{2}, flag, api.ErrForm)
	ends(t, "flag 255", []byte{255}, flag, api.ErrForm)
}

// The first of the three errors, whichever fault came first; and behind a short end nothing is there.
func TestEnd(t *testing.T) {
	number := func(r *Reader) { r.Number(0, 9) }
	text := func(r *Reader) { r.Text() }
	ends(t, "seven bytes", make([]byte, 7), number, api.ErrShort)
	ends(t, "nine bytes", make([]byte, 9), number, api.ErrTrail)
	ends(t, "wrong", Number(nil, 10), number, api.ErrForm)
	ends(t, "wrong, left", append(Number(nil, 10), 0), number, api.ErrTrail)
	ends(t, "wrong, short", Number(nil, 10), func(r *Reader) { number(r); number(r) }, api.ErrShort)
	ends(t, "no flag", nil, func(r *Reader) { r.Flag() }, api.ErrShort)
	ends(t, "text", Text(nil, "ab"), text, api.OK)
	ends(t, "short text", Text(nil, "ab")[:9], text, api.ErrShort)
	ends(t, "longest", Number(nil, -1), text, api.ErrShort)
	ends(t, "needed", nil, func(r *Reader) { r.Need(true); r.Need(false); r.Need(true) }, api.ErrForm)
	ends(t, "as many as bytes", append(Number(nil, 1), 0), func(r *Reader) {
		if n := r.Count(); n != 1 {
			t.Errorf("count %d", n)
		}
		r.Flag()
	}, api.OK)
	ends(t, "more than bytes", append(Number(nil, 2), 0), func(r *Reader) {
		if n := r.Count(); n != 0 || r.Flag() || r.Text() != "" || r.Count() != 0 {
			t.Errorf("something behind the end, count %d", n)
		}
	}, api.ErrShort)
}

// A list is how many and each, and is read so.
func TestList(t *testing.T) {
	for _, all := range [][]int{nil, {7}, {7, 8, 7}} {
		b := List([]byte("x"), all, Number)
		want := Number([]byte("x"), len(all))
		for _, n := range all {
			want = Number(want, n)
		}
		if string(b) != string(want) {
			t.Errorf("List %d: %q, want %q", all, b, want)
		}
		ends(t, "list", b[1:], func(r *Reader) {
			if got := Listed(r, func() int { return r.Number(7, 8) }); !slices.Equal(got, all) {
				t.Errorf("Listed %d, want %d", got, all)
			}
		}, api.OK)
	}
}

// A list that is too short is read to the end of the bytes, and not further.
func TestListedShort(t *testing.T) {
	for n, want := range []api.Errno{api.OK, api.OK, api.OK, api.ErrShort, api.ErrShort, api.ErrShort} {
		calls := 0
		ends(t, "list", append(Number(nil, n), make([]byte, 8*min(n, 2))...), func(r *Reader) {
			Listed(r, func() int { calls++; return r.Number(0, 0) })
		}, want)
		if calls > 3 {
			t.Errorf("%d calls for two numbers", calls)
		}
	}
	ends(t, "more than bytes", Number(nil, 1<<62), func(r *Reader) {
		if got := Listed(r, func() int { t.Errorf("called"); return 0 }); len(got) != 0 {
			t.Errorf("Listed %d", got)
		}
	}, api.ErrShort)
}

// A reply is its fields one behind the other, and is read again by numbers of any bounds.
func TestReply(t *testing.T) {
	full := api.Reply{Status: 207, Tag: 1 << 62, Data: "d", Entries: []api.Entry{{Name: "n", Tag: 3, Data: "m"}, {Gone: true}}, Token: "t"}
	b := Number(Number([]byte("x"), 207), 1<<62)
	b = Number(Text(b, "d"), 2)
	b = append(Text(Number(Text(b, "n"), 3), "m"), 0)
	b = append(Text(Number(Text(b, ""), 0), ""), 1)
	b = Text(b, "t")
	if got := Reply([]byte("x"), full); string(got) != string(b) {
		t.Errorf("Reply: %q, want %q", got, b)
	}
	for _, want := range []api.Reply{full, {}} {
		ends(t, "reply", Reply(nil, want), func(r *Reader) {
			if got := r.Reply(func() int { return r.Number(0, 1<<62) }); !reflect.DeepEqual(got, want) {
				t.Errorf("%v, want %v", got, want)
			}
		}, api.OK)
	}
	ends(t, "a number too great", b[1:], func(r *Reader) { r.Reply(func() int { return r.Number(0, 1<<62-1) }) }, api.ErrForm)
	for n := range len(b) - 1 {
		ends(t, "short reply", b[1:1+n], func(r *Reader) { r.Reply(func() int { return r.Number(0, 1<<62) }) }, api.ErrShort)
	}
}
