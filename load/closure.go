package load

import (
	"strings"

	"flyleaf/api"
	"flyleaf/dynamic"
	"flyleaf/files"
	"flyleaf/needs"
)

// module is a program or a library: what is told of it, and what its file says.
type module struct {
	api.Module
	image api.Image
	view  string
	table api.Dynamic
}

// Closure is the files of a program and of all that it needs, in order.
func Closure(f *files.Files, name string) ([]int, api.Errno) {
	l, err := gather(f, name)
	if err != api.OK {
		return nil, err
	}
	numbers := make([]int, len(l))
	for i, m := range l {
		numbers[i] = m.File
	}
	return numbers, api.OK
}

// gather is the modules of a program's closure, in order; they have no places yet.
func gather(f *files.Files, root string) ([]module, api.Errno) {
	modules, libs := map[string]module{}, []api.Lib{}
	enter := func(name string) api.Errno {
		m, needed, err := open(f, name)
		if err != api.OK {
			return err
		}
		modules[name], libs = m, append(libs, api.Lib{Name: name, Needed: needed})
		return api.OK
	}
	if err := enter(root); err != api.OK {
		return nil, err
	}
	for missing := needs.Missing(libs, root); len(missing) > 0; missing = needs.Missing(libs, root) {
		for _, name := range missing {
			// The root is never missing: so it alone may be other than a library.
			if enter(name) != api.OK || modules[name].image.Kind != api.KindLib {
				return nil, api.ErrLib
			}
		}
	}
	names, err := needs.Order(libs, root)
	if err != api.OK {
		return nil, err
	}
	l := make([]module, len(names))
	for i, name := range names {
		l[i] = modules[name]
	}
	return l, api.OK
}

// open is the module that the file of a name is, and the names of what it needs.
func open(f *files.Files, name string) (module, []string, api.Errno) {
	i, err := f.Lookup(name)
	if err != api.OK {
		return module{}, nil, err
	}
	x, view, d, err := Module(f, i)
	if err != api.OK {
		return module{}, nil, err
	}
	needed, err := dynamic.Names(view, d)
	if err != api.OK {
		return module{}, nil, err
	}
	// The name is told later, and may be a part of a long text that was handed in.
	told := api.Module{File: i, Name: strings.Clone(name)}
	return module{Module: told, image: x, view: view, table: d}, needed, api.OK
}
