package file

import (
	"grist/api"
)

// How many bytes each thing of the index and of the end has.
const (
	ofLength = 2 // how long a text is
	ofCount  = 4 // how many blocks there are
	ofTime   = 8
	ofBegin  = 4 // where something begins
	ofSize   = 4 // how long a block is
	ofSum    = 4
	ofPlace  = ofTime + ofTime + ofBegin + ofSize
	ofEnd    = ofBegin + ofSum
)

// place is what the index says of a block.
type place struct {
	first, last int64
	begin, size int
}

func placeOf(points []api.Point, begin, size int) place {
	return place{first: points[0].Time, last: points[len(points)-1].Time, begin: begin, size: size}
}

// blocksOf is how many blocks so many points take.
func blocksOf(points int) int {
	return (points + api.MostBlock - 1) / api.MostBlock
}

// indexSize is how many bytes the index of the columns has.
func indexSize(list []api.Column) int {
	size := 0
	for _, c := range list {
		size += ofLength + len(c.Series) + ofLength + len(c.Field) + ofCount
		size += ofPlace * blocksOf(len(c.Points))
	}
	return size
}

// appendIndex lays the index of the columns behind b; the places are those of all their blocks.
func appendIndex(b []byte, list []api.Column, places []place) []byte {
	for _, c := range list {
		n := blocksOf(len(c.Points))
		b = appendText(b, c.Series)
		b = appendText(b, c.Field)
		b = appendNumber(b, uint64(n), ofCount)
		for _, p := range places[:n] {
			b = appendPlace(b, p)
		}
		places = places[n:]
	}
	return b
}

func appendPlace(b []byte, p place) []byte {
	b = appendNumber(b, uint64(p.first), ofTime)
	b = appendNumber(b, uint64(p.last), ofTime)
	b = appendNumber(b, uint64(p.begin), ofBegin)
	return appendNumber(b, uint64(p.size), ofSize)
}

func appendText(b []byte, text string) []byte {
	return append(appendNumber(b, uint64(len(text)), ofLength), text...)
}

// appendNumber lays the lowest bytes of n behind b, the highest of them first.
func appendNumber(b []byte, n uint64, size int) []byte {
	for i := size - 1; i >= 0; i-- {
		b = append(b, byte(n>>(8*i)))
	}
	return b
}
