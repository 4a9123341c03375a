package file

import (
	"slices"

	"grist/api"
	"grist/block"
)

// reader goes through a file, column by column.
type reader struct {
	index  []byte // what is left of it
	blocks []byte // what is left of them
	at     int    // where these begin, counted from the file's beginning
}

// each hands the columns whose bytes b are to take, one by one; false, if b isn't the bytes of a list: some may have been handed over by then.
func each(b []byte, take func(api.Column)) bool {
	r, ok := open(b)
	if !ok {
		return false
	}
	var ahead api.Column
	for n := 0; len(r.index) > 0; n++ {
		c, ok := r.column()
		if !ok || n == api.MostColumns || n > 0 && !isBehind(c, ahead) {
			return false
		}
		take(c)
		ahead = c
	}
	return len(r.blocks) == 0
}

// open is a reader at the first column; false, if a file doesn't begin or end so, or the index has another sum.
func open(b []byte) (*reader, bool) {
	if len(b) < len(mark)+ofEnd || len(b) >= tooMany || string(b[:len(mark)]) != mark {
		return nil, false
	}
	behind := len(b) - ofEnd
	begin := int(numberOf(b[behind : behind+ofBegin]))
	if begin < len(mark) || begin > behind {
		return nil, false
	}
	index := b[begin:behind]
	if uint64(block.Sum(index)) != numberOf(b[behind+ofBegin:]) {
		return nil, false
	}
	return &reader{index: index, blocks: b[len(mark):begin], at: len(mark)}, true
}

// column is the next one; false, if there is none, or it can't be one.
func (r *reader) column() (api.Column, bool) {
	series := r.text()
	field := r.text()
	c := api.Column{Series: series, Field: field}
	n := r.number(ofCount)
	if !named(c) || n < 1 || n > uint64(blocksOf(mostPoints)) {
		return api.Column{}, false
	}
	var parts [][]api.Point
	for i := range int(n) {
		points, ok := r.points()
		if !ok || i > 0 && !joins(points, parts[i-1]) {
			return api.Column{}, false
		}
		parts = append(parts, points)
	}
	c.Points = slices.Concat(parts...)
	return c, true
}

// joins tells whether a block's points can stand behind those of the block ahead of it.
func joins(points, ahead []api.Point) bool {
	return len(ahead) == api.MostBlock && follows(points[0], ahead[len(ahead)-1])
}

// points is those of the next block; false, if there is none, or it isn't as the index says.
func (r *reader) points() ([]api.Point, bool) {
	said := r.place()
	if said.size > len(r.blocks) {
		return nil, false
	}
	points, e := block.Decode(r.blocks[:said.size])
	if e != api.OK || said != placeOf(points, r.at, said.size) {
		return nil, false
	}
	r.blocks = r.blocks[said.size:]
	r.at += said.size
	return points, true
}

func (r *reader) place() place {
	first := int64(r.number(ofTime))
	last := int64(r.number(ofTime))
	begin := int(r.number(ofBegin))
	size := int(r.number(ofSize))
	return place{first: first, last: last, begin: begin, size: size}
}

func (r *reader) text() string {
	length := r.number(ofLength)
	return string(r.next(int(length)))
}

func (r *reader) number(size int) uint64 {
	return numberOf(r.next(size))
}

// next is so many bytes of the index; none, and none are left, if there are fewer: a count or a size that is read then is 0, which nothing has.
func (r *reader) next(size int) []byte {
	if size > len(r.index) {
		r.index = nil
		return nil
	}
	b := r.index[:size]
	r.index = r.index[size:]
	return b
}

// numberOf undoes appendNumber.
func numberOf(b []byte) uint64 {
	var n uint64
	for _, c := range b {
		n = n<<8 | uint64(c)
	}
	return n
}
