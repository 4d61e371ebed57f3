package radix

import "flyleaf/api"

// Which of an entry's bits says what; its number stands behind them.
const (
	bitHere = iota
	bitWrite
	bitCopy
	bitOut
	bitNumber
)

// greatest is the greatest number that an entry has.
const greatest = 1 << 20

// empty tells whether an entry says nothing.
func empty(s api.Slot) bool {
	return s == api.Slot{}
}

// may tells whether an entry may be.
func may(s api.Slot) bool {
	return s.Here != s.Out && !(s.Write && s.Copy) && s.N >= 0 && s.N <= greatest
}

// Pack is the bits of an entry: 0, if it may not be.
func Pack(s api.Slot) uint64 {
	if !may(s) {
		return 0
	}
	bits := uint64(s.N) << bitNumber
	put := func(bit int, so bool) {
		if so {
			bits |= 1 << bit
		}
	}
	put(bitHere, s.Here)
	put(bitWrite, s.Write)
	put(bitCopy, s.Copy)
	put(bitOut, s.Out)
	return bits
}

// Unpack is the entry of these bits: nothing, if there is none that may be.
func Unpack(bits uint64) api.Slot {
	has := func(bit int) bool {
		return bits>>bit&1 == 1
	}
	s := api.Slot{Here: has(bitHere), Write: has(bitWrite), Copy: has(bitCopy), Out: has(bitOut), N: int(bits >> bitNumber)}
	// What was read is packed once more: so no bit is forgotten, and one that may not be has none.
	if Pack(s) != bits {
		return api.Slot{}
	}
	return s
}
