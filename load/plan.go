package load

import (
	"flyleaf/api"
	"flyleaf/dynamic"
	"flyleaf/elf"
	"flyleaf/files"
	"flyleaf/octet"
	"flyleaf/place"
	"flyleaf/region"
	"flyleaf/reloc"
	"flyleaf/symbol"
)

// word is how many bytes are put at a relocation's place.
const word = 8

// Make is how a program is loaded, its libraries from low up to high.
func Make(f *files.Files, name string, low, high int) (api.Plan, api.Errno) {
	l, err := gather(f, name)
	if err != api.OK {
		return api.Plan{}, err
	}
	if err := settle(l, low, high); err != api.OK {
		return api.Plan{}, err
	}
	puts, err := fill(l)
	if err != api.OK {
		return api.Plan{}, err
	}
	p := api.Plan{Entry: l[0].Base + l[0].image.Entry, Puts: puts}
	for _, m := range l {
		p.Modules = append(p.Modules, m.Module)
		p.Zeros = append(p.Zeros, Zeros(m.Base, m.image)...)
		for _, r := range Regions(m.File, m.Base, m.image) {
			if p.Regions, err = region.Add(p.Regions, r); err != api.OK {
				return api.Plan{}, err
			}
		}
	}
	return p, api.OK
}

// settle puts the modules of a closure at their places.
func settle(l []module, low, high int) api.Errno {
	if root := l[0].image; root.Kind == api.KindExec {
		if elf.Span(root) > low {
			return api.ErrExec
		}
		// Such a root is at 0, where it is already.
		l = l[1:]
	}
	if high > api.Top {
		return api.ErrArg
	}
	wants := make([]api.Want, len(l))
	for i, m := range l {
		wants[i] = api.Want{Size: elf.Span(m.image), Slot: m.table.Slot}
	}
	bases, err := place.All(wants, low, high)
	for i, base := range bases {
		l[i].Base = base
	}
	return err
}

// fill is what is put at the places of all relocations of modules that have their own places.
func fill(l []module) ([]api.Put, api.Errno) {
	find := finder(l)
	puts := []api.Put{}
	for _, m := range l {
		relocs, err := reloc.Read(m.view, m.table)
		if err != api.OK {
			return nil, err
		}
		for _, r := range relocs {
			target, ok := 0, true
			if reloc.Asks(r) {
				target, ok = find(m.asked(r))
			}
			if !ok || !m.writes(r.At) {
				return nil, api.ErrLib
			}
			value, _ := reloc.Value(r, m.Base, target)
			puts = append(puts, api.Put{At: m.Base + r.At, Value: value})
		}
	}
	return puts, api.OK
}

// finder is by what is asked where in memory a name's symbol is: in the first module that has it.
func finder(l []module) func(name string) (int, bool) {
	// Many relocations ask for one name, and a search goes through all modules. A name that is not found is asked once.
	known := map[string]int{}
	return func(name string) (int, bool) {
		// In a table there may be a symbol of an empty name, but none may be asked for by it.
		if name == "" {
			return 0, false
		}
		at, ok := known[name]
		if ok {
			return at, true
		}
	search:
		for _, m := range l {
			var s api.Symbol
			if s, ok = symbol.Find(m.view, m.table, name); ok {
				at = m.Base + s.Value
				known[name] = at
				break search
			}
		}
		return at, ok
	}
}

// asked is the name of the symbol that a relocation asks for; empty, if there is none.
func (m module) asked(r api.Reloc) string {
	s, ok := symbol.Read(m.view, m.table, r.Symbol)
	if !ok {
		return ""
	}
	name, _ := dynamic.Name(m.view, m.table, s.Name)
	return name
}

// writes tells whether a relocation's place is within a segment that may be written.
func (m module) writes(at int) bool {
	for s := range loads(m.image) {
		if writable(s) && octet.Within(at-s.Addr, word, s.Mem) {
			return true
		}
	}
	return false
}
