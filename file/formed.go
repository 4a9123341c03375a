package file

import (
	"cmp"

	"grist/api"
	"grist/value"
)

const (
	mostText   = 4000    // bytes of a series, and of a field
	mostPoints = 1000000 // of a column
)

// formed tells whether a file can have these columns.
func formed(list []api.Column) bool {
	if len(list) > api.MostColumns {
		return false
	}
	for i, c := range list {
		if i > 0 && !isBehind(c, list[i-1]) {
			return false
		}
		if !named(c) || !filled(c.Points) {
			return false
		}
	}
	return true
}

// isBehind tells whether a column stands behind another one.
func isBehind(c, other api.Column) bool {
	return cmp.Or(cmp.Compare(c.Series, other.Series), cmp.Compare(c.Field, other.Field)) > 0
}

// named tells whether a column's texts are short enough.
func named(c api.Column) bool {
	return len(c.Series) <= mostText && len(c.Field) <= mostText
}

// filled tells whether a column can have these points.
func filled(points []api.Point) bool {
	if len(points) < 1 || len(points) > mostPoints {
		return false
	}
	for i, p := range points {
		if !value.Formed(p.Value) || i > 0 && !follows(p, points[i-1]) {
			return false
		}
	}
	return true
}

// follows tells whether p can stand behind the point ahead of it.
func follows(p, ahead api.Point) bool {
	return p.Time > ahead.Time && p.Value.Kind == ahead.Value.Kind
}
