package value

import (
	"strconv"
	"strings"

	"grist/api"
)

const (
	mostFloat  = 400 // bytes of a text that is read as a float
	mostDigits = 25  // digits of a text that is read as an integer
)

// Parse answers the value that s is read as.
func Parse(s string) (api.Value, api.Errno) {
	switch {
	case s == "":
		return api.Value{}, api.ErrForm
	case s[0] == '"':
		return parseString(s)
	case s[len(s)-1] == 'i':
		return parseInteger(s)
	}
	switch s {
	case "t", "T", "true", "True", "TRUE":
		return api.Value{Kind: api.Boolean, Bits: 1}, api.OK
	case "f", "F", "false", "False", "FALSE":
		return api.Value{Kind: api.Boolean}, api.OK
	}
	return parseFloat(s)
}

func parseInteger(s string) (api.Value, api.Errno) {
	number := strings.TrimSuffix(s, "i")
	digits := strings.TrimPrefix(number, "-")
	if len(digits) > mostDigits {
		return api.Value{}, api.ErrForm
	}
	if rest, some := skipDigits(digits); rest != "" || !some {
		return api.Value{}, api.ErrForm
	}
	n, err := strconv.ParseInt(number, 10, 64)
	if err != nil {
		return api.Value{}, api.ErrRange
	}
	return api.Value{Kind: api.Integer, Bits: uint64(n)}, api.OK
}

func parseFloat(s string) (api.Value, api.Errno) {
	if len(s) > mostFloat || !floatForm(s) {
		return api.Value{}, api.ErrForm
	}
	// The form is held to ahead of this: the library reads hexadecimal digits, _ and Inf too.
	f, err := strconv.ParseFloat(s, 64)
	if err != nil {
		return api.Value{}, api.ErrRange
	}
	return Of(f), api.OK
}

// floatForm tells whether s, of whatever length, is written as a float is.
func floatForm(s string) bool {
	rest, ok := skipDigits(strings.TrimPrefix(s, "-"))
	if ok && strings.HasPrefix(rest, ".") {
		rest, ok = skipDigits(rest[1:])
	}
	if ok && rest != "" && (rest[0] == 'e' || rest[0] == 'E') {
		rest, ok = skipDigits(skipSign(rest[1:]))
	}
	return ok && rest == ""
}

func skipSign(s string) string {
	if s != "" && (s[0] == '+' || s[0] == '-') {
		return s[1:]
	}
	return s
}

// skipDigits answers what is behind the digits that s begins with, and whether there were some.
func skipDigits(s string) (string, bool) {
	rest := strings.TrimLeft(s, "0123456789")
	return rest, len(rest) < len(s)
}

func parseString(s string) (api.Value, api.Errno) {
	text, ok := unquote(s)
	if !ok {
		return api.Value{}, api.ErrForm
	}
	if len(text) > api.MostString {
		return api.Value{}, api.ErrLong
	}
	return api.Value{Kind: api.String, Text: text}, api.OK
}

// unquote answers the bytes that s, in quotes, stands for, and whether it is written so.
func unquote(s string) (string, bool) {
	if len(s) < 2 || s[0] != '"' || s[len(s)-1] != '"' {
		return "", false
	}
	inner := s[1 : len(s)-1]
	var out strings.Builder
	for i := 0; i < len(inner); i++ {
		c := inner[i]
		if c == '"' || c == '\n' {
			return "", false
		}
		if c == '\\' {
			i++
			// A backslash that ends inner would take the closing quote.
			if i == len(inner) {
				return "", false
			}
			meant, ok := escaped(inner[i])
			if !ok {
				return "", false
			}
			c = meant
		}
		out.WriteByte(c)
	}
	return out.String(), true
}

// escaped answers what c means behind a backslash, and whether it may stand there.
func escaped(c byte) (byte, bool) {
	switch c {
	case '"', '\\':
		return c, true
	case 'n':
		return '\n', true
	}
	return 0, false
}
