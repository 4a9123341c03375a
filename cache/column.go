package cache

import (
	"cmp"
	"slices"
	"sort"

	"grist/api"
)

// mostPiece is the most points of a piece.
const mostPiece = 512

// column is points of one Kind, rising: in pieces, none of them empty, one behind the other. So a point that comes in between moves few others, however many there are.
type column struct {
	pieces [][]api.Point
}

func (l *column) empty() bool {
	return len(l.pieces) == 0
}

// takes tells whether a value of this Kind may stand beside the points that are there.
func (l *column) takes(kind int) bool {
	return l.empty() || l.pieces[0][0].Value.Kind == kind
}

// has tells whether there is a point at this time.
func (l *column) has(time int64) bool {
	i := l.reach(time)
	if i == len(l.pieces) {
		return false
	}
	_, found := seek(l.pieces[i], time)
	return found
}

// put lays p in the place of the point at its time, or between those ahead of it and behind it.
func (l *column) put(p api.Point) {
	i := l.reach(p.Time)
	if i == len(l.pieces) {
		l.push(p)
		return
	}
	at, found := seek(l.pieces[i], p.Time)
	if found {
		l.pieces[i][at] = p
		return
	}
	l.pieces[i] = slices.Insert(l.pieces[i], at, p)
	l.split(i)
}

// push lays p behind all points. Times mostly come rising: so full pieces stay whole then.
func (l *column) push(p api.Point) {
	i := len(l.pieces) - 1
	if l.empty() || len(l.pieces[i]) == mostPiece {
		l.pieces = append(l.pieces, []api.Point{p})
		return
	}
	l.pieces[i] = append(l.pieces[i], p)
}

// split makes two pieces of one that has become too long.
func (l *column) split(i int) {
	piece := l.pieces[i]
	if len(piece) <= mostPiece {
		return
	}
	half := len(piece) / 2
	behind := slices.Clone(piece[half:])
	// The spare room behind the first half would keep their texts.
	clear(piece[half:])
	l.pieces[i] = piece[:half]
	l.pieces = slices.Insert(l.pieces, i+1, behind)
}

// between is the points from the time from to the time to, both ones in.
func (l *column) between(from, to int64) []api.Point {
	var parts [][]api.Point
	for _, piece := range l.pieces[l.reach(from):] {
		if piece[0].Time > to {
			break
		}
		begin, end := span(piece, from, to)
		parts = append(parts, piece[begin:end])
	}
	return slices.Concat(parts...)
}

// remove takes the points from the time from to the time to out, both ones in; the answer is how many they were.
func (l *column) remove(from, to int64) int {
	first := l.reach(from)
	gone := 0
	var kept [][]api.Point
	behind := first
	for ; behind < len(l.pieces) && l.pieces[behind][0].Time <= to; behind++ {
		piece := l.pieces[behind]
		begin, end := span(piece, from, to)
		gone += end - begin
		// A new piece, as the old one's room may be far more than what is left needs.
		if rest := slices.Concat(piece[:begin], piece[end:]); len(rest) > 0 {
			kept = append(kept, rest)
		}
	}
	l.pieces = slices.Replace(l.pieces, first, behind, kept...)
	return gone
}

// reach is the place of the first piece that has a point at this time or behind it; how many pieces there are, if none has.
func (l *column) reach(time int64) int {
	return sort.Search(len(l.pieces), func(i int) bool {
		piece := l.pieces[i]
		return piece[len(piece)-1].Time >= time
	})
}

// seek is the place of the point at this time, and true; or where it would stand, and false.
func seek(piece []api.Point, time int64) (int, bool) {
	return slices.BinarySearchFunc(piece, time, func(p api.Point, time int64) int {
		return cmp.Compare(p.Time, time)
	})
}

// span is where the points from the time from to the time to, both ones in, begin and end.
func span(piece []api.Point, from, to int64) (int, int) {
	begin, _ := seek(piece, from)
	end, found := seek(piece, to)
	if found {
		end++
	}
	return begin, max(begin, end)
}
