// Package octet is layer 1: numbers in bytes, the least byte first, at any place of a text. See shared/doc/01-octet.md.
package octet

const (
	// widest is how many bytes a number has at most.
	widest = 8
	// highest is the greatest number that Round tells.
	highest = 1 << 62
	// longest is the greatest text that the document promises anything of.
	longest = 1<<31 - 1
)

// Put is the width bytes of n, the least first.
func Put(n uint64, width int) string {
	b := make([]byte, min(max(width, 0), widest))
	for i := range len(b) {
		b[i] = byte(n)
		n >>= 8
	}
	return string(b)
}

// Get is the number that stands in s.
func Get(s string, at, width int) (uint64, bool) {
	if !holds(s, at, width) {
		return 0, false
	}
	n := uint64(0)
	for i := range width {
		n |= uint64(s[at+i]) << (8 * i)
	}
	return n, true
}

// Set is s with a number in it.
func Set(s string, at, width int, n uint64) (string, bool) {
	if !holds(s, at, width) {
		return s, false
	}
	b := []byte(s)
	copy(b[at:], Put(n, width))
	return string(b), true
}

// holds tells whether a number of that width may stand there.
func holds(s string, at, width int) bool {
	return width >= 1 && width <= widest && Within(at, width, len(s))
}

// Part is the bytes of a range.
func Part(s string, at, n int) (string, bool) {
	if !Within(at, n, len(s)) {
		return "", false
	}
	return part(s, at, n), true
}

// part copies, so that a short part doesn't keep all of a long text.
func part(s string, at, n int) string {
	b := make([]byte, n)
	copy(b, s[at:])
	return string(b)
}

// Text is the bytes up to the next byte 0.
func Text(s string, at, most int) (string, bool) {
	if !Within(at, 0, len(s)) {
		return "", false
	}
	n, found := 0, false
scan:
	for i := range len(s) - at {
		switch {
		case i > most:
			break scan
		case s[at+i] == 0:
			n, found = i, true
			break scan
		}
	}
	if !found {
		return "", false
	}
	return part(s, at, n), true
}

// Fill is s with bytes 0 behind, or cut.
func Fill(s string, n int) string {
	// Of a text that is longer nothing is promised, but the call must not fail for want of memory.
	if n < 0 || n > max(len(s), longest) {
		return ""
	}
	b := make([]byte, n)
	copy(b, s)
	return string(b)
}

// Round is the least number from n on that by goes into.
func Round(n, by int) (int, bool) {
	if n < 0 || n > highest || by < 1 {
		return 0, false
	}
	over := n % by
	if over == 0 {
		return n, true
	}
	more := by - over
	if more > highest-n {
		return 0, false
	}
	return n + more, true
}

// Within tells whether a range is one of so many bytes.
func Within(at, n, all int) bool {
	// at and n together may be above the greatest int: so what is behind at is asked.
	return at >= 0 && n >= 0 && at <= all && n <= all-at
}
