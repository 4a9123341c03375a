package value

import (
	"math"
	"strconv"
	"strings"

	"grist/api"
)

// Between these exponents, both ones in, a float's text has no exponent.
const (
	leastPlain = -4
	mostPlain  = 15
)

// Print answers v's text; ErrArg, if v isn't formed.
func Print(v api.Value) (string, api.Errno) {
	if !Formed(v) {
		return "", api.ErrArg
	}
	switch v.Kind {
	case api.Float:
		return printFloat(math.Float64frombits(v.Bits)), api.OK
	case api.Integer:
		return strconv.FormatInt(int64(v.Bits), 10) + "i", api.OK
	case api.Boolean:
		return strconv.FormatBool(v.Bits == 1), api.OK
	}
	return quote(v.Text), api.OK
}

func printFloat(f float64) string {
	text := strconv.FormatFloat(f, 'e', -1, 64)
	digits, power, _ := strings.Cut(text, "e")
	// The library writes a sign and two digits at least; the document asks for neither.
	exponent, _ := strconv.Atoi(power)
	if exponent >= leastPlain && exponent <= mostPlain {
		return strconv.FormatFloat(f, 'f', -1, 64)
	}
	return digits + "e" + strconv.Itoa(exponent)
}

func quote(text string) string {
	var out strings.Builder
	out.WriteByte('"')
	for i := 0; i < len(text); i++ {
		switch c := text[i]; c {
		case '"', '\\':
			out.WriteByte('\\')
			out.WriteByte(c)
		case '\n':
			out.WriteString(`\n`)
		default:
			out.WriteByte(c)
		}
	}
	out.WriteByte('"')
	return out.String()
}
