package symbol

import (
	"iter"
	"strings"

	"flyleaf/api"
	"flyleaf/dynamic"
	"flyleaf/octet"
)

const (
	// width is how many bytes a hash table's number has.
	width = 4
	// most is how many symbols a hash table has at most.
	most = 4096
)

// Which of a hash table's numbers are which: the first ones of the chains stand from firstsAt on, the next ones behind them.
const (
	chainsAt = 0
	countAt  = 1
	firstsAt = 2
)

// Table is the hash table of symbols with these names.
func Table(names []string) (string, api.Errno) {
	if len(names) > most {
		return "", api.ErrSize
	}
	firsts, nexts := make([]int, max(len(names), 1)), make([]int, len(names))
	for i, name := range names {
		if i > 0 && name != "" {
			first := &firsts[int(Hash(name))%len(firsts)]
			nexts[i], *first = *first, i
		}
	}
	b := strings.Builder{}
	put := func(l ...int) {
		for _, n := range l {
			b.WriteString(octet.Put(uint64(n), width))
		}
	}
	put(len(firsts), len(nexts))
	put(firsts...)
	put(nexts...)
	return b.String(), api.OK
}

// number is one of those of a program's hash table.
func number(view string, d api.Dynamic, i int) (int, bool) {
	if d.Hash < 1 || !octet.Within(d.Hash, 0, len(view)) {
		return 0, false
	}
	n, ok := octet.Get(view[d.Hash:], i*width, width)
	return int(n), ok
}

// Count is how many symbols a program's hash table has.
func Count(view string, d api.Dynamic) int {
	n, _ := number(view, d, countAt)
	if n > most {
		return 0
	}
	return n
}

// chain goes over the symbols that may have a name of that hash, as far as the table says which ones.
func chain(view string, d api.Dynamic, hash uint32) iter.Seq[int] {
	return func(yield func(int) bool) {
		count := Count(view, d)
		chains, _ := number(view, d, chainsAt)
		if chains == 0 {
			return
		}
		at := firstsAt + int(hash)%chains
		// A chain that comes back to itself has no end: no more steps are gone than there are symbols.
		for range count {
			i, _ := number(view, d, at)
			if i == 0 || i >= count || !yield(i) {
				return
			}
			at = firstsAt + chains + i
		}
	}
}

// Find is the first symbol of a name's chain that is defined and has that name.
func Find(view string, d api.Dynamic, name string) (api.Symbol, bool) {
	found, ok := api.Symbol{}, false
search:
	for i := range chain(view, d, Hash(name)) {
		s, _ := Read(view, d, i)
		if !s.Defined {
			continue
		}
		if own, named := dynamic.Name(view, d, s.Name); named && own == name {
			found, ok = s, true
			break search
		}
	}
	return found, ok
}
