package files

import (
	"iter"
	"strings"

	"flyleaf/api"
	"flyleaf/octet"
)

const (
	// magic begins sector 0.
	magic = "FLY1"
	// maxSize is how many bytes a file has at most.
	maxSize = 1 << 20
)

// Where the numbers stand in sector 0, and in a file's own sector.
const (
	countAt   = 4
	usedAt    = 6
	sizeAt    = api.MaxName
	manyAt    = sizeAt + 4
	extentsAt = manyAt + 2
)

// headText is what sector 0 says, without the bytes 0 behind.
func headText(count, used int) string {
	return magic + octet.Put(uint64(count), 2) + octet.Put(uint64(used), 4)
}

// inodeText is what a file's own sector says, without the bytes 0 behind.
func inodeText(x api.Inode) string {
	s := octet.Fill(x.Name, api.MaxName) + octet.Put(uint64(x.Size), 4) + octet.Put(uint64(len(x.Extents)), 2)
	for _, e := range x.Extents {
		s += octet.Put(uint64(e.At), 2) + octet.Put(uint64(e.N), 2)
	}
	return s
}

// number is one that stands in a sector.
func number(s string, at, width int) int {
	n, _ := octet.Get(s, at, width)
	return int(n)
}

// readHead tells how many files there are, and how many sectors are used, if s is a sector 0.
func readHead(s string) (int, int, bool) {
	count, used := number(s, countAt, 2), number(s, usedAt, 4)
	// What was read is written once more: so no byte is forgotten.
	return count, used, s == octet.Fill(headText(count, used), api.Page)
}

// readInode tells what s says of a file, if all its bytes are as those of a file's own sector.
func readInode(s string) (api.Inode, bool) {
	many := number(s, manyAt, 2)
	if many > api.MaxExtents {
		return api.Inode{}, false
	}
	name, _ := octet.Part(s, 0, api.MaxName)
	x := api.Inode{Name: strings.TrimRight(name, "\x00"), Size: number(s, sizeAt, 4)}
	for i := range many {
		at := extentsAt + 4*i
		x.Extents = append(x.Extents, api.Extent{At: number(s, at, 2), N: number(s, at+2, 2)})
	}
	return x, s == octet.Fill(inodeText(x), api.Page)
}

// pages is how many so many bytes take.
func pages(size int) int {
	all, _ := octet.Round(size, api.Page)
	return all / api.Page
}

// parts goes over a file's extents, and tells of each one how many of the file's sectors are ahead of it.
func parts(l []api.Extent) iter.Seq2[int, api.Extent] {
	return func(yield func(int, api.Extent) bool) {
		ahead := 0
		for _, e := range l {
			if !yield(ahead, e) {
				return
			}
			ahead += e.N
		}
	}
}

// sectorOf is where a page stands that the file has.
func sectorOf(l []api.Extent, page int) int {
	at := 0
find:
	for ahead, e := range parts(l) {
		if page < ahead+e.N {
			at = e.At + page - ahead
			break find
		}
	}
	return at
}

// stands tells whether a file's parts are sectors from first up to used, as many as its size takes.
func stands(x api.Inode, first, used int) bool {
	all := 0
	for ahead, e := range parts(x.Extents) {
		if e.N < 1 || e.At < first || !octet.Within(e.At, e.N, used) {
			return false
		}
		all = ahead + e.N
	}
	return x.Size <= maxSize && all == pages(x.Size)
}
