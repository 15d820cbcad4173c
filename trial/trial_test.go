package trial

import (
	"encoding/binary"
	"slices"
	"testing"

	"calepin/api"
)

// Every text of at most two of two pieces, each once.
func TestEvery(t *testing.T) {
	var got []string
	Every([]string{"a", "bc"}, 2, func(s string) { got = append(got, s) })
	if want := []string{"", "a", "aa", "abc", "bc", "bca", "bcbc"}; !slices.Equal(got, want) {
		t.Errorf("%q, want %q", got, want)
	}
}

// Every text beside one, and none that isn't: their number, and some of each sort.
func TestBeside(t *testing.T) {
	counts, all := map[string]int{}, 0
	Beside("ab", func(s string) { counts[s]++; all++ })
	if all != 3*256+2*256+2 {
		t.Errorf("%d texts", all)
	}
	for _, s := range []string{"\xffab", "a\x00b", "ab\x80", "xb", "ax", "a", "b", "ab"} {
		if counts[s] == 0 {
			t.Errorf("without %q", s)
		}
	}
	for s := range counts {
		if len(s) < 1 || len(s) > 3 {
			t.Errorf("with %q", s)
		}
	}
	Beside("", func(s string) {
		if len(s) != 1 {
			t.Errorf("beside the empty text: %q", s)
		}
	})
}

// Each number below the bound comes, none above it, and the same row at each run.
func TestDraws(t *testing.T) {
	a, b, counts := Draws(1), Draws(1), [7]int{}
	for range 7000 {
		n := a.Below(7)
		if n < 0 || n >= 7 || b.Below(7) != n {
			t.Fatalf("drawn %d", n)
		}
		counts[n]++
	}
	if slices.Min(counts[:]) < 500 {
		t.Errorf("drawn unevenly: %d", counts)
	}
	if s := a.Of("x"); s != "x" {
		t.Errorf("drawn %q", s)
	}
}

// Numbers and texts as the stock library lays them, behind what stood there, and scanned again.
func TestScan(t *testing.T) {
	numbers := []uint64{0, 1, 255, 256, 1<<32 - 1, 1 << 32, 0x0102030405060708, 1 << 62, 1<<64 - 1}
	for _, n := range numbers {
		b := PutNumber([]byte("x"), n)
		if want := binary.BigEndian.AppendUint64([]byte("x"), n); !slices.Equal(b, want) {
			t.Errorf("PutNumber %d: %q", n, b)
		}
		e := Scanned(PutText(b, "ab"), func(s *Scan) {
			if x, m, ab := string(s.Bytes(1)), s.Number(), s.Text(); x != "x" || m != n || ab != "ab" {
				t.Errorf("scanned %q, %d, %q", x, m, ab)
			}
		})
		if e != api.OK {
			t.Errorf("%d: %d", n, e)
		}
	}
}

// How scanning ends: a count may be that of the bytes behind it, and no greater one; what isn't read is left.
func TestScanned(t *testing.T) {
	each := func(s *Scan) { s.Each(func() { s.Bytes(1) }) }
	text := func(s *Scan) { s.Text() }
	for _, x := range []struct {
		b    []byte
		read func(*Scan)
		want api.Errno
	}{
		{nil, func(*Scan) {}, api.OK}, {[]byte{0}, func(*Scan) {}, api.ErrTrail},
		{nil, text, api.ErrShort}, {make([]byte, 7), text, api.ErrShort}, {make([]byte, 8), text, api.OK}, {make([]byte, 9), text, api.ErrTrail},
		{PutText(nil, "ab")[:9], text, api.ErrShort}, {PutNumber(nil, 1<<64-1), text, api.ErrShort},
		{PutText(nil, "ab"), each, api.OK}, {PutText(nil, "ab")[:9], each, api.ErrShort}, {append(PutText(nil, "ab"), 0), each, api.ErrTrail},
		{append(PutNumber(nil, 2), 0), func(s *Scan) { s.Each(func() { t.Errorf("a call of too many") }) }, api.ErrShort},
	} {
		if e := Scanned(x.b, x.read); e != x.want {
			t.Errorf("%q: %d, want %d", x.b, e, x.want)
		}
	}
	defer func() {
		if x := recover(); x != "other" {
			t.Errorf("another panic: %v", x)
		}
	}()
	Scanned(nil, func(*Scan) { panic("other") })
}

// Bytes spoilt are others, mostly, and no longer ones; those handed in stay.
func TestSpoilt(t *testing.T) {
	d, others, cuts := Draws(1), 0, 0
	for range 1000 {
		c := d.Spoilt([]byte("abcdefgh"))
		if len(c) > 8 || len(c) < 1 {
			t.Fatalf("spoilt: %q", c)
		}
		if string(c) != "abcdefgh"[:len(c)] {
			others++
		}
		if len(c) < 8 {
			cuts++
		}
	}
	if others < 500 || cuts < 300 || cuts > 700 {
		t.Errorf("%d others, %d cut", others, cuts)
	}
	b := []byte("abc")
	d.Spoilt(b)
	if string(b) != "abc" {
		t.Errorf("spoilt where it stood: %q", b)
	}
}

// text is something that has a form.
type text struct{ form string }

func (x *text) Form() []byte { return []byte(x.form) }

// Loads finds each fault, and none where there is none.
func TestLoads(t *testing.T) {
	load := func(form string, e api.Errno, spoils bool) func([]byte) (*text, api.Errno) {
		return func(b []byte) (*text, api.Errno) {
			if spoils {
				b[0] = 'z'
			}
			if form == "" {
				return nil, e
			}
			return &text{form}, e
		}
	}
	for _, x := range []struct {
		form   string
		e      api.Errno
		spoils bool
		want   api.Errno
		right  bool
	}{
		{"ab", api.OK, false, api.OK, true}, {"", api.ErrForm, false, api.ErrForm, true},
		{"ab", api.OK, false, api.ErrForm, false}, {"", api.ErrForm, false, api.OK, false}, {"", api.ErrForm, false, api.ErrShort, false},
		{"", api.OK, false, api.OK, false}, {"ab", api.ErrForm, false, api.ErrForm, false},
		{"ac", api.OK, false, api.OK, false}, {"ab", api.OK, true, api.OK, false}, {"zb", api.OK, true, api.OK, false}, {"", api.ErrForm, true, api.ErrForm, false},
	} {
		if wrong := Loads(load(x.form, x.e, x.spoils), []byte("ab"), x.want); (wrong == "") != x.right {
			t.Errorf("%v: %q", x, wrong)
		}
	}
}
