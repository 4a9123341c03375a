package tomb

import (
	"cmp"
	"slices"
	"sort"

	"grist/api"
)

// grave is what all tombs of one Series and one Field say together.
type grave struct {
	series, field string
	spans         []span // rising, and apart
}

// span is a range of times, both ends in.
type span struct {
	from, to int64
}

// graves rise by series, then by field: so what is said of a column, and of each point, is found soon, however long the list of tombs is.
type graves []grave

func gravesOf(list []Tomb) graves {
	rising := slices.Clone(list)
	slices.SortFunc(rising, func(a, b Tomb) int {
		return cmp.Or(cmp.Compare(a.Series, b.Series), cmp.Compare(a.Field, b.Field), cmp.Compare(a.From, b.From))
	})
	var all graves
	for _, t := range rising {
		last := len(all) - 1
		if last < 0 || all[last].series != t.Series || all[last].field != t.Field {
			all = append(all, grave{series: t.Series, field: t.Field})
			last++
		}
		all[last].add(span{from: t.From, to: t.To})
	}
	return all
}

// add lays s to the spans of which none begins behind it.
func (g *grave) add(s span) {
	last := len(g.spans) - 1
	if last >= 0 && s.from <= g.spans[last].to {
		g.spans[last].to = max(g.spans[last].to, s.to)
		return
	}
	// A tomb that ends ahead of its beginning says nothing.
	if s.from <= s.to {
		g.spans = append(g.spans, s)
	}
}

// left is the points of a column that no tomb covers.
func (all graves) left(c api.Column) []api.Point {
	ofAll := all.find(c.Series, "")
	ofOne := all.find(c.Series, c.Field)
	var points []api.Point
	for _, p := range c.Points {
		if !within(ofAll, p.Time) && !within(ofOne, p.Time) {
			points = append(points, p)
		}
	}
	return points
}

// find is the spans that are said of just this Series and Field.
func (all graves) find(series, field string) []span {
	at, found := slices.BinarySearchFunc(all, grave{series: series, field: field}, grave.compare)
	if !found {
		return nil
	}
	return all[at].spans
}

func (g grave) compare(other grave) int {
	return cmp.Or(cmp.Compare(g.series, other.series), cmp.Compare(g.field, other.field))
}

// within tells whether a time is in one of the spans.
func within(spans []span, t int64) bool {
	behind := sort.Search(len(spans), func(i int) bool { return spans[i].from > t })
	return behind > 0 && t <= spans[behind-1].to
}
