package trial

import (
	"slices"
	"testing"
)

// Every text of at most two of two pieces, each once.
func TestEvery(t *testing.T) {
	var got []string
	Every([]string{"a", "bc"}, 2, func(s string) { got = append(got, s) })
	if want := []string{"", "a", "aa", "abc", "bc", "bca", "bcbc"}; !slices.Equal(got, want) {
		t.Errorf("%q, want %q", got, want)
	}
}

// Every text beside one, and none that isn't: their number, and some of each sort.
func TestBeside(t *testing.T) {
	counts, all := map[string]int{}, 0
	Beside("ab", func(s string) { counts[s]++; all++ })
	if all != 3*256+2*256+2 {
		t.Errorf("%d texts", all)
	}
	for _, s := range []string{"\xffab", "a\x00b", "ab\x80", "xb", "ax", "a", "b", "ab"} {
		if counts[s] == 0 {
			t.Errorf("without %q", s)
		}
	}
	for s := range counts {
		if len(s) < 1 || len(s) > 3 {
			t.Errorf("with %q", s)
		}
	}
	Beside("", func(s string) {
		if len(s) != 1 {
			t.Errorf("beside the empty text: %q", s)
		}
	})
}

// Each number below the bound comes, none above it, and the same row at each run.
func TestDraws(t *testing.T) {
	a, b, counts := Draws(1), Draws(1), [7]int{}
	for range 7000 {
		n := a.Below(7)
		if n < 0 || n >= 7 || b.Below(7) != n {
			t.Fatalf("drawn %d", n)
		}
		counts[n]++
	}
	if slices.Min(counts[:]) < 500 {
		t.Errorf("drawn unevenly: %d", counts)
	}
	if s := a.Of("x"); s != "x" {
		t.Errorf("drawn %q", s)
	}
}
