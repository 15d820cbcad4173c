// Package trial has what the tests of several layers share. The layers themselves don't use it.
package trial

// Every calls do with each text of at most most of the given pieces.
func Every(pieces []string, most int, do func(string)) {
	grow("", pieces, most, do)
}

// grow calls do with s and all that left pieces behind it make.
func grow(s string, pieces []string, left int, do func(string)) {
	do(s)
	if left == 0 {
		return
	}
	for _, p := range pieces {
		grow(s+p, pieces, left-1, do)
	}
}

// Beside calls do with each text that is s but for one byte: laid in, put for another one (or for itself), or taken out.
func Beside(s string, do func(string)) {
	for at := 0; at <= len(s); at++ {
		ahead, behind := s[:at], s[at:]
		for i := range 256 {
			b := string([]byte{byte(i)})
			do(ahead + b + behind)
			if behind != "" {
				do(ahead + b + behind[1:])
			}
		}
		if behind != "" {
			do(ahead + behind[1:])
		}
	}
}

// Draws is a row of numbers that look drawn, the same ones at each run.
type Draws uint64

// Below is the next number of the row below n, which is above 0.
func (d *Draws) Below(n int) int {
	*d = *d*6364136223846793005 + 1442695040888963407
	return int(uint64(*d)>>33) % n
}

// Of is one of the texts, of which there must be one.
func (d *Draws) Of(texts ...string) string {
	return texts[d.Below(len(texts))]
}
