package elf

import (
	"strings"

	"flyleaf/api"
	"flyleaf/octet"
)

const (
	// magic begins a file; bytes 0 are behind it.
	magic     = "\x7fELF\x02\x01\x01"
	magicSize = 16
	// machine and version are the only ones that there are.
	machine = 62
	version = 1
	// headSize is how many bytes the header has that is ahead of the segments', segmentSize how many one of these has.
	headSize    = 64
	segmentSize = 56
)

// Where the numbers stand that are read; anyAt and moreAt are where any bytes may stand, and so is secondAt in a segment's.
const (
	kindAt   = 16
	entryAt  = 24
	anyAt    = 40
	anySize  = 12
	manyAt   = 56
	moreAt   = 58
	moreSize = 6
	secondAt = 24
)

// numbers are a segment's, as they stand in a file: Type, Flags, Off, Addr, Addr once more, Size, Mem, Align.
type numbers [8]int

// widths says of each of a segment's numbers how many bytes it has, greatest how much it may be.
var (
	widths   = numbers{4, 4, 8, 8, 8, 8, 8, 8}
	greatest = numbers{1 << 30, 7, 1 << 40, 1 << 40, 1 << 40, 1 << 40, 1 << 40, 1 << 40}
)

// numbersOf is a segment's numbers.
func numbersOf(s api.Segment) numbers {
	return numbers{s.Type, s.Flags, s.Off, s.Addr, s.Addr, s.Size, s.Mem, s.Align}
}

// segment is the one that has these numbers.
func (l numbers) segment() api.Segment {
	return api.Segment{Type: l[0], Flags: l[1], Off: l[2], Addr: l[3], Size: l[5], Mem: l[6], Align: l[7]}
}

// Header is an image's headers.
func Header(x api.Image) string {
	b := strings.Builder{}
	put := func(n, width int) {
		b.WriteString(octet.Put(uint64(max(n, 0)), width))
	}
	b.WriteString(octet.Fill(magic, magicSize))
	put(x.Kind, 2)
	put(machine, 2)
	put(version, 4)
	put(x.Entry, 8)
	put(headSize, 8)
	b.WriteString(octet.Fill("", anySize))
	put(headSize, 2)
	put(segmentSize, 2)
	put(len(x.Segments), 2)
	b.WriteString(octet.Fill("", moreSize))
	for _, s := range x.Segments {
		for i, n := range numbersOf(s) {
			put(n, widths[i])
		}
	}
	return b.String()
}

// number is one that stands in a file: one that is above the greatest int is below 0, which none may be.
func number(file string, at, width int) int {
	n, _ := octet.Get(file, at, width)
	return int(n)
}

// read is the image that stands where a file's headers are, if they are any.
func read(file string) api.Image {
	x := api.Image{Kind: number(file, kindAt, 2), Entry: number(file, entryAt, 8)}
	// One more than there may be is enough to be refused.
	many := min(number(file, manyAt, 2), api.MaxSegments+1)
	at := headSize
	for range many {
		l := numbers{}
		for i, width := range widths {
			l[i] = number(file, at, width)
			at += width
		}
		x.Segments = append(x.Segments, l.segment())
	}
	return x
}

// headed tells whether a file begins with an image's headers, but where any bytes may stand.
func headed(file string, x api.Image) bool {
	head := []byte(Header(x))
	lend := func(at, n int) {
		copy(head[at:at+n], file[at:at+n])
	}
	lend(anyAt, anySize)
	lend(moreAt, moreSize)
	for i := range x.Segments {
		lend(headSize+i*segmentSize+secondAt, 8)
	}
	return strings.HasPrefix(file, string(head))
}

// Parse is the image of a file.
func Parse(file string) (api.Image, api.Errno) {
	x := read(file)
	if Check(x, len(file)) != api.OK || !headed(file, x) {
		return api.Image{}, api.ErrExec
	}
	return x, api.OK
}
