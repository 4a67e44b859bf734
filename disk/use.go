package disk

import (
	"afflux/api"
)

// Append puts texts behind a file's bytes.
func (d *Disk) Append(name string, data ...string) api.Errno {
	if e := d.ask(name); e != api.OK {
		return e
	}
	f := d.files[name]
	if e := d.refuses(name, len(f.data)+length(data)); e != api.OK {
		return e
	}
	for _, s := range data {
		f.data = append(f.data, s...)
	}
	d.lay(name, f)
	return api.OK
}

// length is how many bytes texts have, or, if these are more than a file may
// have, some number above that.
func length(data []string) int {
	n := 0
	for _, s := range data {
		n += len(s)
		if n > api.MaxFile {
			break
		}
	}
	return n
}

// Sync keeps files' bytes.
func (d *Disk) Sync(names ...string) api.Errno {
	if e := d.askOf(names...); e != api.OK {
		return e
	}
	for _, name := range names {
		f := d.files[name]
		f.kept = len(f.data)
		d.files[name] = f
	}
	return api.OK
}

// Rename calls a file by another name.
func (d *Disk) Rename(from, to string) api.Errno {
	if e := d.ask(from, to); e != api.OK {
		return e
	}
	f, there := d.files[from]
	if !there {
		return api.ErrNone
	}
	delete(d.files, from)
	d.files[to] = f
	return api.OK
}

// Delete takes a file away.
func (d *Disk) Delete(name string) api.Errno {
	if e := d.askOf(name); e != api.OK {
		return e
	}
	delete(d.files, name)
	return api.OK
}

// Cut cuts a file off.
func (d *Disk) Cut(name string, size int) api.Errno {
	if e := d.askOf(name); e != api.OK {
		return e
	}
	f := d.files[name]
	if size < 0 || size > len(f.data) {
		return api.ErrArg
	}
	d.files[name] = file{data: f.data[:size], kept: min(f.kept, size)}
	return api.OK
}

// ask is why a use of some names can't be. What it asks first is the power: a
// use of names that may not be is one, too, by which it may go off.
func (d *Disk) ask(names ...string) api.Errno {
	switch {
	case d == nil:
		return api.ErrArg
	case !d.use():
		return api.ErrOff
	case !named(names...):
		return api.ErrArg
	}
	return api.OK
}

// askOf is why a use of files that must be there can't be.
func (d *Disk) askOf(names ...string) api.Errno {
	if e := d.ask(names...); e != api.OK {
		return e
	}
	for _, name := range names {
		if _, there := d.files[name]; !there {
			return api.ErrNone
		}
	}
	return api.OK
}
