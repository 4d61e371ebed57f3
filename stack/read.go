package stack

import (
	"flyleaf/api"
	"flyleaf/octet"
)

const (
	// mostRead is how many args are read at most, how many of env, and how many of aux.
	mostRead = 128
	// mostText is how many bytes a text that is read has at most.
	mostText = 1024
	// nothing is what a reader panics with: only Read sees it.
	nothing = "there is nothing to be read"
)

// Read is what a stack says that begins at sp.
func Read(view string, from, sp int) (args, env []string, aux []api.Pair, ok bool) {
	if from < 0 || sp < from || sp > highest {
		return nil, nil, nil, false
	}
	defer func() {
		if recover() != nil {
			args, env, aux, ok = nil, nil, nil, false
		}
	}()
	r := reader{view: view, from: from, at: sp - from}
	count := r.number()
	args = r.texts()
	must(count == uint64(len(args)))
	env = r.texts()
	aux = r.pairs()
	return args, env, aux, true
}

// reader reads numbers one behind the other, and texts where they say. Where there is nothing to be read, it panics.
type reader struct {
	view string
	// from is the address of the view's first byte; at is where in the view the next number stands.
	from, at int
}

// must panics, if what has to be so is not.
func must(ok bool) {
	if !ok {
		panic(nothing)
	}
}

// number is the next one.
func (r *reader) number() uint64 {
	n, ok := octet.Get(r.view, r.at, width)
	must(ok)
	r.at += width
	return n
}

// low is the next number, which is a place or one of aux.
func (r *reader) low() int {
	n := r.number()
	must(n <= highest)
	return int(n)
}

// text is the one at a place.
func (r *reader) text(place int) string {
	s, ok := octet.Text(r.view, place-r.from, mostText)
	must(ok)
	return s
}

// texts are those of a row of places, up to the 0 behind it.
func (r *reader) texts() []string {
	l := []string{}
places:
	for {
		switch place := r.low(); place {
		case 0:
			break places
		default:
			must(len(l) < mostRead)
			l = append(l, r.text(place))
		}
	}
	return l
}

// pairs are aux, up to the Tag 0 behind them.
func (r *reader) pairs() []api.Pair {
	l := []api.Pair{}
tags:
	for {
		switch tag := r.low(); tag {
		case 0:
			// What stands behind it may be any number, but must be one.
			r.number()
			break tags
		default:
			must(len(l) < mostRead)
			l = append(l, api.Pair{Tag: tag, Value: r.low()})
		}
	}
	return l
}
