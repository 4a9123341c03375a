package disk

import (
	"bytes"
	"maps"
	"slices"
	"strings"

	"grist/api"
)

// The bytes that no name has: those below leastByte, and delete.
const (
	leastByte  = 32
	deleteByte = 127
)

// file is bytes, of which the first so many are synced.
type file struct {
	data   []byte
	synced int
}

// isName tells whether a file can be called so.
func isName(name string) bool {
	if len(name) < 1 || len(name) > api.MostName {
		return false
	}
	for i := range len(name) {
		if name[i] < leastByte || name[i] == deleteByte {
			return false
		}
	}
	return true
}

// names are those of all files, rising, of a disk that is down too.
func (d *Disk) names() []string {
	return slices.Sorted(maps.Keys(d.files))
}

// find is the file of this name; ErrLost, if the disk is down; ErrNone, if there is none.
func (d *Disk) find(name string) (*file, api.Errno) {
	if d.Down() {
		return nil, api.ErrLost
	}
	f := d.files[name]
	if f == nil {
		return nil, api.ErrNone
	}
	return f, api.OK
}

// made is the file of this name, one without bytes, if there was none.
func (d *Disk) made(name string) *file {
	if f := d.files[name]; f != nil {
		return f
	}
	if d.files == nil {
		d.files = make(map[string]*file)
	}
	f := &file{}
	// The name may be a piece of a text that is far longer, which would be kept with it.
	d.files[strings.Clone(name)] = f
	return f
}

// drop takes the file of this name away, if there is one.
func (d *Disk) drop(name string) {
	if f := d.files[name]; f != nil {
		d.used -= len(f.data)
		delete(d.files, name)
	}
}

// cut leaves f its first n bytes, and those of them synced that were.
func (d *Disk) cut(f *file, n int) {
	d.used -= len(f.data) - n
	f.data = f.data[:n]
	f.synced = min(f.synced, n)
	// What is gone isn't kept; but a little cut from much doesn't copy it all.
	if n < cap(f.data)/2 {
		f.data = bytes.Clone(f.data)
	}
}
