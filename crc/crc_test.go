package crc

import (
	"encoding/binary"
	"hash/crc32"
	"math/bits"
	"slices"
	"strconv"
	"strings"
	"testing"

	"calepin/trial"
)

// oracle is the sum of bytes as the chapter tells it, bit by bit, without a table: another make than the package's.
func oracle[T string | []byte](b T) uint32 {
	register := uint32(0xFFFFFFFF)
	for _, x := range []byte(b) {
		for i := range 8 {
			out := register&1 != uint32(x>>i&1)
			register >>= 1
			if out {
				register ^= 0xEDB88320
			}
		}
	}
	return ^register
}

// sums asks that Sum answers just this, and leaves the bytes as they are.
func sums(t *testing.T, b string, want uint32) {
	t.Helper()
	part := []byte(b)
	if got := Sum(part); got != want {
		t.Fatalf("Sum(%.99q): %08X, want %08X", b, got, want)
	}
	if string(part) != b {
		t.Fatalf("Sum has changed %.99q", b)
	}
}

// drawn are n drawn bytes.
func drawn(d *trial.Draws, n int) []byte {
	b := make([]byte, n)
	for i := range b {
		b[i] = byte(d.Below(256))
	}
	return b
}

// The chapter's examples, and sums that are known elsewhere.
func TestExamples(t *testing.T) {
	for b, want := range map[string]uint32{
		"123456789": 0xCBF43926,
		"":          0,
		"\x00":      0xD202EF8D,
		"\xff":      0xFF000000,
		"a":         0xE8B7BE43,
		"abc":       0x352441C2,
		"The quick brown fox jumps over the lazy dog": 0x414FA339,
		strings.Repeat("\x00", 32):                    0x190A55AD,
		strings.Repeat("\xff", 32):                    0xFF6CAB0B,
	} {
		sums(t, b, want)
	}
	if got := Sum(); got != 0 {
		t.Errorf("Sum(): %08X", got)
	}
}

// P16.1: all texts of at most two bytes, and longer ones of bytes whose bits differ in number and place.
func TestShort(t *testing.T) {
	var all, some []string
	for i := range 256 {
		all = append(all, string([]byte{byte(i)}))
	}
	for _, i := range []int{0, 1, 8, 15, 16, 128, 240, 255} {
		some = append(some, all[i])
	}
	trial.Every(all, 2, func(b string) { sums(t, b, oracle(b)) })
	trial.Every(some, 5, func(b string) { sums(t, b, oracle(b)) })
}

// P16.1: each byte at each place.
func TestBeside(t *testing.T) {
	trial.Beside("CALEPIN1\x00\x00\x00\x02ab", func(b string) { sums(t, b, oracle(b)) })
}

// P16.1: long rows of bytes, against the chapter's words and the stock sum.
func TestLong(t *testing.T) {
	d := trial.Draws(16)
	for _, n := range []int{15, 16, 17, 255, 256, 257, 1023, 1024, 1025, 65535, 65536, 65537, 1 << 20} {
		for _, b := range []string{string(drawn(&d, n)), strings.Repeat("\x00", n), strings.Repeat("\xff", n)} {
			sums(t, b, oracle(b))
			sums(t, b, crc32.ChecksumIEEE([]byte(b)))
		}
	}
}

// P16.1: however bytes are put into parts, theirs is the sum of all.
func TestParts(t *testing.T) {
	whole := []byte("123456789")
	asks := func(parts ...[]byte) {
		t.Helper()
		if got, want := Sum(parts...), oracle(slices.Concat(parts...)); got != want {
			t.Errorf("Sum(%q): %08X, want %08X", parts, got, want)
		}
	}
	for i := range len(whole) + 1 {
		for k := i; k <= len(whole); k++ {
			asks(whole[:i], whole[i:k], whole[k:])
			asks(nil, whole[:i], []byte{}, nil, whole[i:k], whole[k:], nil)
			asks(whole[k:], whole[:i])
			if got := Sum(whole[:i], whole[i:k], whole[k:]); got != 0xCBF43926 {
				t.Errorf("parts at %d and %d: %08X", i, k, got)
			}
		}
	}
	asks(slices.Collect(slices.Chunk(whole, 1))...)
	asks(whole, whole, whole)
	asks(nil)
	asks(nil, []byte{})
	asks([]byte{0}, nil, []byte{0})
	asks(make([][]byte, 1000)...)
	d := trial.Draws(161)
	for range 2000 {
		var parts [][]byte
		for range d.Below(8) {
			parts = append(parts, drawn(&d, d.Below(20)))
		}
		asks(parts...)
	}
}

// P16.2: what stands behind is summed up with what stood ahead, at each place of a text.
func TestMore(t *testing.T) {
	d := trial.Draws(162)
	for n := range 50 {
		b := drawn(&d, n)
		for i := range n + 1 {
			ahead, behind := b[:i], b[i:]
			if got, want := More(oracle(ahead), behind), oracle(b); got != want {
				t.Fatalf("More(%08X, %q): %08X, want %08X", oracle(ahead), behind, got, want)
			}
			if got := More(More(0, ahead), behind); got != Sum(b) {
				t.Fatalf("More of More: %08X, want %08X", got, Sum(b))
			}
		}
	}
}

// fourOf are four bytes whose sum is this one: the register is shifted up again as often as it was shifted down for them.
func fourOf(sum uint32) []byte {
	register := ^sum
	for range 32 {
		if register>>31 == 1 {
			register = (register^0xEDB88320)<<1 | 1
		} else {
			register <<= 1
		}
	}
	return binary.LittleEndian.AppendUint32(nil, ^register)
}

// P16.2: every number is a sum of some bytes, so More goes on from each: the least, the greatest, each bit, drawn ones.
func TestMoreOfAny(t *testing.T) {
	d := trial.Draws(1620)
	all := []uint32{0, 1, 2, 15, 16, 255, 256, 1<<31 - 1, 1 << 31, 1<<31 + 1, 1<<32 - 2, 1<<32 - 1, 0xEDB88320, 0x12477CDF, 0xCBF43926}
	for i := range 32 {
		all = append(all, 1<<i, ^uint32(1<<i))
	}
	for range 1000 {
		all = append(all, uint32(d.Below(1<<16))<<16|uint32(d.Below(1<<16)))
	}
	for _, sum := range all {
		ahead := fourOf(sum)
		if got := Sum(ahead); got != sum {
			t.Fatalf("Sum(%q): %08X, want %08X", ahead, got, sum)
		}
		for _, behind := range [][]byte{nil, {}, {0}, {255}, []byte("ab"), drawn(&d, 1+d.Below(30))} {
			want := oracle(slices.Concat(ahead, behind))
			if got := More(sum, behind); got != want {
				t.Fatalf("More(%08X, %q): %08X, want %08X", sum, behind, got, want)
			}
		}
		if More(sum, nil) != sum {
			t.Fatalf("More(%08X, nil): %08X", sum, More(sum, nil))
		}
	}
}

// turned is b anew, with the bits of a pattern turned from bit at on. A byte's lowest bit is its first one.
func turned(b []byte, at int, pattern uint64) []byte {
	c := slices.Clone(b)
	for i := range bits.Len64(pattern) {
		place := at + i
		c[place/8] ^= byte(pattern>>i&1) << (place % 8)
	}
	return c
}

// P16.3: rows of bits of each length up to 32 at each place, all short patterns and drawn long ones, with anything around.
func TestRows(t *testing.T) {
	d := trial.Draws(163)
	for _, n := range []int{1, 2, 3, 4, 5, 8, 9, 14, 40} {
		b := drawn(&d, n)
		was := Sum(b)
		for at := range 8 * n {
			left := min(32, 8*n-at)
			unlike := func(pattern uint64) {
				c := turned(b, at, pattern)
				if got := Sum(c); got == was {
					t.Fatalf("%q and %q have the sum %08X", b, c, got)
				}
			}
			for pattern := uint64(1); pattern < 1<<min(left, 9); pattern++ {
				unlike(pattern)
			}
			for range 200 {
				pattern := uint64(d.Below(1<<16))<<16 | uint64(d.Below(1<<16))
				unlike(1 | pattern&(1<<left-1))
			}
			unlike(1<<left - 1)
		}
	}
}

// P16.3, for all patterns: what a difference does to the sum is the sum of what its bits do (TestBitsAdd), and of 32 bits one behind the other no choice adds up to nothing.
func TestRowsAll(t *testing.T) {
	for n := 4; n <= 64; n++ {
		b := make([]byte, n)
		was := Sum(b)
		for at := range 8*n - 31 {
			var highest [32]uint32
			for i := range 32 {
				x := Sum(turned(b, at+i, 1)) ^ was
				for x != 0 && highest[bits.Len32(x)-1] != 0 {
					x ^= highest[bits.Len32(x)-1]
				}
				if x == 0 {
					t.Fatalf("%d bytes: some of the bits from %d to %d add up to nothing", n, at, at+i)
				}
				highest[bits.Len32(x)-1] = x
			}
		}
	}
}

// What two differences do to a sum together is what each does, added without carry.
func TestBitsAdd(t *testing.T) {
	d := trial.Draws(1630)
	for range 5000 {
		n := d.Below(70)
		a, b, c := drawn(&d, n), drawn(&d, n), drawn(&d, n)
		all := slices.Clone(a)
		for i := range all {
			all[i] ^= b[i] ^ c[i]
		}
		if got := Sum(a) ^ Sum(b) ^ Sum(c); got != Sum(all) {
			t.Fatalf("%q, %q, %q: %08X, want %08X", a, b, c, got, Sum(all))
		}
	}
}

// A row of 33 bits may be missed: that of the polynomial itself, and no other one that begins and ends with a 1.
func TestRowOf33(t *testing.T) {
	d := trial.Draws(33)
	// The bits of EDB88320 stand behind the greatest power, which is the first bit.
	missed := uint64(0xEDB88320)<<1 | 1
	for n := 5; n <= 40; n++ {
		b := drawn(&d, n)
		for at := range 8*n - 32 {
			sums(t, string(turned(b, at, missed)), Sum(b))
			other := missed ^ 1<<(1+d.Below(31))
			if Sum(turned(b, at, other)) == Sum(b) {
				t.Fatalf("%d bytes: the row %X at %d is missed", n, other, at)
			}
		}
	}
}

// What is handed in stays as it is, with the room behind it, which isn't summed up; and nothing is kept from call to call.
func TestHandedIn(t *testing.T) {
	room := []byte("123456789 and more")
	parts := [][]byte{room[:4], room[4:9], room[9:12], nil}
	for i := range 3 {
		what := "call " + strconv.Itoa(i)
		if got := Sum(parts[:2]...); got != 0xCBF43926 {
			t.Errorf("%s: Sum: %08X", what, got)
		}
		if got := More(Sum(parts[0]), parts[1]); got != 0xCBF43926 {
			t.Errorf("%s: More: %08X", what, got)
		}
		if string(room) != "123456789 and more" || len(parts) != 4 || string(parts[2]) != " an" || parts[3] != nil || len(parts[0]) != 4 {
			t.Errorf("%s: what was handed in is now %q, %q", what, room, parts)
		}
	}
}
