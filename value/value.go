// Package value is layer 1: typed values as texts, and their order.
// See shared/doc/01-value.md.
package value

import (
	"cmp"
	"math"

	"grist/api"
)

// Formed tells whether v is a value as the document forms one.
func Formed(v api.Value) bool {
	switch v.Kind {
	case api.Float:
		return v.Text == "" && finite(math.Float64frombits(v.Bits))
	case api.Integer:
		return v.Text == ""
	case api.Boolean:
		return v.Text == "" && v.Bits <= 1
	case api.String:
		return v.Bits == 0 && len(v.Text) <= api.MostString
	}
	return false
}

func finite(f float64) bool {
	return !math.IsNaN(f) && !math.IsInf(f, 0)
}

// Compare orders values by Kind, and those of one Kind by what they mean.
func Compare(a, b api.Value) int {
	if a.Kind != b.Kind {
		return cmp.Compare(a.Kind, b.Kind)
	}
	switch a.Kind {
	case api.Float:
		return compareFloats(a, b)
	case api.Integer:
		return cmp.Compare(int64(a.Bits), int64(b.Bits))
	case api.Boolean:
		return cmp.Compare(a.Bits, b.Bits)
	case api.String:
		return cmp.Compare(a.Text, b.Text)
	}
	return 0
}

func compareFloats(a, b api.Value) int {
	if !Formed(a) || !Formed(b) {
		return cmp.Compare(a.Bits, b.Bits)
	}
	x, y := math.Float64frombits(a.Bits), math.Float64frombits(b.Bits)
	if order := cmp.Compare(x, y); order != 0 {
		return order
	}
	// Like numbers of unlike Bits are 0 and -0; the sign bit makes the Bits of -0 the greater ones.
	return cmp.Compare(b.Bits, a.Bits)
}

// Of is the value of Float with f's Bits, also where f is no number and the value isn't formed.
func Of(f float64) api.Value {
	return api.Value{Kind: api.Float, Bits: math.Float64bits(f)}
}

// Number is the float64 of a Float or an Integer, and true; 0 and false of every other Kind.
func Number(v api.Value) (float64, bool) {
	switch v.Kind {
	case api.Float:
		return math.Float64frombits(v.Bits), true
	case api.Integer:
		return float64(int64(v.Bits)), true
	}
	return 0, false
}
