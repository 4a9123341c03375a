package wave

import (
	"math"
	"strings"

	"grist/api"
	"grist/value"
)

// The texts of the parts that layer 1 has no text of.
const (
	textNaN   = "NaN"
	textAbove = "+Inf"
	textBelow = "-Inf"
)

const between = "," // stands between the texts of both parts

// Text is c's text.
func Text(c complex128) string {
	return partText(real(c)) + between + partText(imag(c))
}

func partText(f float64) string {
	switch {
	case math.IsNaN(f):
		return textNaN
	case math.IsInf(f, 1):
		return textAbove
	case math.IsInf(f, -1):
		return textBelow
	}
	// Every other float is formed, so there is no error.
	text, _ := value.Print(value.Of(f))
	return text
}

// Read answers the complex number whose text s is; ErrForm, if there is none.
func Read(s string) (complex128, api.Errno) {
	first, second, ok := strings.Cut(s, between)
	if !ok {
		return 0, api.ErrForm
	}
	a, ok := readPart(first)
	if !ok {
		return 0, api.ErrForm
	}
	// A second comma would stand in here, and no part's text has one.
	b, ok := readPart(second)
	if !ok {
		return 0, api.ErrForm
	}
	return complex(a, b), api.OK
}

// readPart answers the float whose text s is, and whether there is one.
func readPart(s string) (float64, bool) {
	switch s {
	case textNaN:
		return math.NaN(), true
	case textAbove:
		return math.Inf(1), true
	case textBelow:
		return math.Inf(-1), true
	}
	v, e := value.Parse(s)
	if e != api.OK {
		return 0, false
	}
	f, ok := value.Number(v)
	// Layer 1 reads more than a float's text (1.0, 1e3, 1i), so only what is printed again as it stood is one.
	if !ok || partText(f) != s {
		return 0, false
	}
	return f, true
}
