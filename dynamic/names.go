package dynamic

import (
	"flyleaf/api"
	"flyleaf/octet"
)

// Name is the one that stands in d's names at a place.
func Name(view string, d api.Dynamic, at int) (string, bool) {
	if d.NamesSize < 0 || !octet.Within(d.Names, 0, len(view)) {
		return "", false
	}
	// Names and NamesSize together may be above the greatest int, and be more than the view has: so it is cut twice.
	names := view[d.Names:]
	return octet.Text(names[:min(d.NamesSize, len(names))], at, api.MaxName)
}

// Names are those of the libraries that are needed.
func Names(view string, d api.Dynamic) ([]string, api.Errno) {
	l := []string{}
	for _, at := range d.Needed {
		name, _ := Name(view, d, at)
		if name == "" {
			return nil, api.ErrLib
		}
		l = append(l, name)
	}
	return l, api.OK
}

// Own is the program's own name; an Own of 0 is a place below 0, where there is none.
func Own(view string, d api.Dynamic) (string, bool) {
	return Name(view, d, d.Own-1)
}
