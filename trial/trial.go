// Package trial has what the tests of several layers share. The layers themselves don't use it.
package trial

// Every calls do with each text of at most most of the given pieces.
func Every(pieces []string, most int, do func(string)) {
	grow("", pieces, most, do)
}

// grow calls do with s and all that left pieces behind it make.
func grow(s string, pieces []string, left int, do func(string)) {
	do(s)
	if left == 0 {
		return
	}
	for _, p := range pieces {
		grow(s+p, pieces, left-1, do)
	}
}

// Draws is a row of numbers that look drawn, the same ones at each run.
type Draws uint64

// Below is the next number of the row below n, which is above 0.
func (d *Draws) Below(n int) int {
	*d = *d*6364136223846793005 + 1442695040888963407
	return int(uint64(*d)>>33) % n
}

// Of is one of the texts, of which there must be one.
func (d *Draws) Of(texts ...string) string {
	return texts[d.Below(len(texts))]
}
