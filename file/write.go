package file

import (
	"slices"

	"grist/api"
	"grist/block"
)

// writer lays the file of a list down.
type writer struct {
	list   []api.Column
	b      []byte  // the mark, and the blocks so far
	places []place // theirs
	behind int     // how many bytes will stand behind all blocks
}

func newWriter(list []api.Column) *writer {
	return &writer{list: list, b: []byte(mark), behind: indexSize(list) + ofEnd}
}

// put lays points down as the next block.
func (w *writer) put(points []api.Point) api.Errno {
	laid, e := block.Encode(points)
	if e != api.OK {
		return e
	}
	w.places = append(w.places, placeOf(points, len(w.b), len(laid)))
	w.b = append(w.b, laid...)
	// Asked at each block, as a list may have far more than a file has room for.
	if len(w.b)+w.behind >= tooMany {
		return api.ErrLong
	}
	return api.OK
}

// whole is the file, when all blocks are laid down.
func (w *writer) whole() []byte {
	begin := len(w.b)
	b := appendIndex(slices.Grow(w.b, w.behind), w.list, w.places)
	sum := block.Sum(b[begin:])
	b = appendNumber(b, uint64(begin), ofBegin)
	return appendNumber(b, uint64(sum), ofSum)
}
