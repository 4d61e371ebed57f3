package place

import (
	"slices"

	"flyleaf/api"
	"flyleaf/octet"
)

// room is what is free of a room: its gaps. A gap ends where the room does, or at a thing's Slot, as what goes to the first place that is free leaves nothing free just ahead of it. So all ends are known at the beginning, and over them stands a tree by which the first gap of a size is found without going over all of them: lists of things may be long.
type room struct {
	low, high int
	// ends are where gaps may end, in order.
	ends []int
	// sizes are the tree: from half on those of the gaps that end there (0: there is none), ahead of them in each place the greater one of the two at twice the place.
	sizes []int
	half  int
}

// newRoom is a room all of which is free, for these things.
func newRoom(l []api.Want, low, high int) *room {
	r := &room{low: low, high: high, ends: []int{high}, half: 1}
	for _, w := range l {
		if r.liked(w) {
			r.ends = append(r.ends, w.Slot)
		}
	}
	slices.Sort(r.ends)
	r.ends = slices.Compact(r.ends)
	for r.half < len(r.ends) {
		r.half *= 2
	}
	r.sizes = make([]int, 2*r.half)
	r.set(len(r.ends)-1, high-low)
	return r
}

// liked tells whether a thing likes a place, and one at which it may be.
func (r *room) liked(w api.Want) bool {
	return w.Slot != 0 && w.Slot%api.Page == 0 && octet.Within(w.Slot-r.low, Round(w.Size), r.high-r.low)
}

// places goes over those at which a thing is to be tried.
func (r *room) places(w api.Want) func(yield func(at int) bool) {
	return func(yield func(at int) bool) {
		if r.liked(w) && !yield(w.Slot) {
			return
		}
		if i, ok := r.find(0, Round(w.Size)); ok {
			yield(r.from(i))
		}
	}
}

// take takes size bytes from a place on, if they are free.
func (r *room) take(at, size int) bool {
	behind, here := slices.BinarySearch(r.ends, at)
	if here {
		behind++
	}
	i, ok := r.find(behind, 1)
	if !ok {
		return false
	}
	from, end := r.from(i), r.ends[i]
	if at < from || size > end-at {
		return false
	}
	r.set(i, end-at-size)
	if at > from {
		// The place is a Slot, at which a gap may end.
		r.set(behind-1, at-from)
	}
	return true
}

// from is where the gap begins that has the i-th end.
func (r *room) from(i int) int {
	return r.ends[i] - r.sizes[r.half+i]
}

// set says how long the gap is that has the i-th end.
func (r *room) set(i, size int) {
	i += r.half
	r.sizes[i] = size
	for i > 1 {
		i /= 2
		r.sizes[i] = max(r.sizes[2*i], r.sizes[2*i+1])
	}
}

// find is the first gap, from the i-th end on, that has at least size bytes.
func (r *room) find(i, size int) (int, bool) {
	i += r.half
	for r.sizes[i] < size {
		// No gap below this place of the tree is long enough: on to the next place that has other ones, as high up as can be.
		for i%2 == 1 {
			i /= 2
		}
		if i == 0 {
			return 0, false
		}
		i++
	}
	for i < r.half {
		i *= 2
		if r.sizes[i] < size {
			i++
		}
	}
	return i - r.half, true
}
