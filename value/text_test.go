package value

import (
	"math"
	"math/big"
	"math/rand"
	"strconv"
	"strings"
	"testing"

	"grist/api"
)

// someFloats are the edges, and floats of any Bits, of any exponent.
func someFloats(count int) []float64 {
	list := edgeFloats()
	random := rand.New(rand.NewSource(1))
	for len(list) < count {
		f := math.Float64frombits(random.Uint64() >> 1)
		if f <= math.MaxFloat64 {
			list = append(list, f)
		}
		list = append(list, random.Float64(), float64(random.Int63n(1<<60)), float64(random.Int63n(1e7))/1000)
	}
	return list
}

func TestPrint(t *testing.T) {
	for _, c := range []struct {
		v    api.Value
		want string
	}{
		{Of(0), "0"}, {Of(math.Copysign(0, -1)), "-0"}, {Of(1.5), "1.5"}, {Of(-1.5), "-1.5"}, {Of(10), "10"},
		{Of(100000), "100000"}, {Of(1e15), "1000000000000000"}, {Of(1e16), "1e16"}, {Of(-1e16), "-1e16"},
		{Of(9999999999999998), "9999999999999998"}, {Of(1.0000000000000002e16), "1.0000000000000002e16"},
		{Of(0.0001), "0.0001"}, {Of(0.00001), "1e-5"}, {Of(-0.00001), "-1e-5"}, {Of(0.00012345), "0.00012345"},
		{Of(math.Nextafter(0.0001, 0)), "9.999999999999999e-5"}, {Of(0.00009999), "9.999e-5"},
		{Of(math.SmallestNonzeroFloat64), "5e-324"}, {Of(math.MaxFloat64), "1.7976931348623157e308"},
		{Of(-math.MaxFloat64), "-1.7976931348623157e308"}, {Of(1e23), "1e23"}, {Of(1e100), "1e100"},
		{Of(1234567890123456.5), "1234567890123456.5"}, {Of(123456789012345680000), "1.2345678901234568e20"},
		{integer(0), "0i"}, {integer(-1), "-1i"}, {integer(math.MaxInt64), "9223372036854775807i"},
		{integer(math.MinInt64), "-9223372036854775808i"},
		{boolean(0), "false"}, {boolean(1), "true"},
		{text(""), `""`}, {text("a\"b\\c\nd"), `"a\"b\\c\nd"`}, {text("\r\t\x00\xff"), "\"\r\t\x00\xff\""},
		{text(`\n`), `"\\n"`}, {text(strings.Repeat("x", api.MostString)), `"` + strings.Repeat("x", api.MostString) + `"`},
	} {
		if got, e := Print(c.v); got != c.want || e != api.OK {
			t.Errorf("Print(%.80v): %.80q %v, not %.80q", c.v, got, e, c.want)
		}
	}
	for _, v := range unformed() {
		if got, e := Print(v); got != "" || e != api.ErrArg {
			t.Errorf("Print(%.80v): %.80q %v, not ErrArg", v, got, e)
		}
	}
}

// parts takes a printed float above 0 apart: its digits as an integer without noughts behind, and the place of the first one.
func parts(printed string) (digits string, exponent int) {
	mantissa, power, _ := strings.Cut(printed, "e")
	exponent, _ = strconv.Atoi(power)
	whole, broken, _ := strings.Cut(mantissa, ".")
	digits = strings.TrimLeft(whole+broken, "0")
	exponent += len(whole) - 1 - (len(whole+broken) - len(digits))
	return strings.TrimRight(digits, "0"), exponent
}

// scaled is digits, a point behind the first one, times 10^exponent.
func scaled(digits *big.Int, count, exponent int) *big.Rat {
	power := exponent - count + 1
	ten := new(big.Int).Exp(big.NewInt(10), big.NewInt(int64(max(power, -power))), nil)
	if power < 0 {
		return new(big.Rat).SetFrac(digits, ten)
	}
	return new(big.Rat).SetInt(new(big.Int).Mul(digits, ten))
}

// around are the two numbers of so many digits between which f lies.
func around(f *big.Rat, count, exponent int) [2]*big.Rat {
	unit := scaled(big.NewInt(1), count, exponent)
	ratio := new(big.Rat).Quo(f, unit)
	below := new(big.Int).Quo(ratio.Num(), ratio.Denom())
	above := new(big.Int).Add(below, big.NewInt(1))
	return [2]*big.Rat{scaled(below, count, exponent), scaled(above, count, exponent)}
}

func distance(a, b *big.Rat) *big.Rat {
	d := new(big.Rat).Sub(a, b)
	return d.Abs(d)
}

// TestPrintFewestDigits holds the digits against exact numbers: none fewer are read as the float, none as many are nearer.
func TestPrintFewestDigits(t *testing.T) {
	for _, f := range someFloats(6000) {
		if f == 0 {
			continue
		}
		printed, _ := Print(Of(f))
		digits, exponent := parts(printed)
		exact := new(big.Rat).SetFloat64(f)
		number, _ := new(big.Int).SetString(digits, 10)
		said := scaled(number, len(digits), exponent)
		if back, _ := said.Float64(); back != f {
			t.Errorf("%q is read as %v", printed, back)
		}
		for _, other := range around(exact, len(digits), exponent) {
			if back, _ := other.Float64(); back == f && distance(other, exact).Cmp(distance(said, exact)) < 0 {
				t.Errorf("%q: %s is nearer", printed, other.RatString())
			}
		}
		for _, other := range around(exact, len(digits)-1, exponent) {
			if back, _ := other.Float64(); back == f {
				t.Errorf("%q: %s has fewer digits", printed, other.RatString())
			}
		}
	}
}

// TestPrintLayout holds the layout against the document: by the place of the first digit.
func TestPrintLayout(t *testing.T) {
	for _, f := range someFloats(6000) {
		if f == 0 {
			continue
		}
		printed, _ := Print(Of(f))
		digits, exponent := parts(printed)
		if want := layout(digits, exponent); printed != want {
			t.Errorf("%q, not %q", printed, want)
		}
		if below, _ := Print(Of(-f)); below != "-"+printed {
			t.Errorf("%q, not -%q", below, printed)
		}
	}
}

func layout(digits string, exponent int) string {
	switch {
	case exponent < -4 || exponent > 15:
		if len(digits) > 1 {
			digits = digits[:1] + "." + digits[1:]
		}
		return digits + "e" + strconv.Itoa(exponent)
	case exponent < 0:
		return "0." + strings.Repeat("0", -exponent-1) + digits
	case len(digits) <= exponent+1:
		return digits + strings.Repeat("0", exponent+1-len(digits))
	}
	return digits[:exponent+1] + "." + digits[exponent+1:]
}

func TestParse(t *testing.T) {
	long := strings.Repeat("x", api.MostString)
	for s, want := range map[string]api.Value{
		"0": Of(0), "-0": Of(math.Copysign(0, -1)), "00": Of(0), "1.50": Of(1.5), "007": Of(7), "-1.5": Of(-1.5),
		"1e3": Of(1000), "1E3": Of(1000), "1e+3": Of(1000), "1.25E-3": Of(0.00125), "1e003": Of(1000), "-1e0": Of(-1),
		"0e999999999999999999999999": Of(0), "-0.0e-5": Of(math.Copysign(0, -1)),
		"1e-400": Of(0), "-1e-400": Of(math.Copysign(0, -1)), "1e-99999999999999999999": Of(0),
		"5e-324": Of(5e-324), "2.4703282292062327e-324": Of(0), "2.4703282292062329e-324": Of(5e-324),
		"1.7976931348623157e308": Of(math.MaxFloat64), "-1.7976931348623157e308": Of(-math.MaxFloat64),
		"9007199254740993": Of(9007199254740992), "9007199254740995": Of(9007199254740996),
		"9007199254740993.0000000000000000000000000000000000001": Of(9007199254740994),
		"100000000000000000000000":                               Of(1e23),
		"0i":                                                     integer(0), "-0i": integer(0), "12i": integer(12), "-12i": integer(-12), "007i": integer(7),
		"9223372036854775807i": integer(math.MaxInt64), "-9223372036854775808i": integer(math.MinInt64),
		"0000000000000000000000001i": integer(1), "-0000009223372036854775808i": integer(math.MinInt64),
		"t": boolean(1), "T": boolean(1), "true": boolean(1), "True": boolean(1), "TRUE": boolean(1),
		"f": boolean(0), "F": boolean(0), "false": boolean(0), "False": boolean(0), "FALSE": boolean(0),
		`""`: text(""), `"a"`: text("a"), `"\""`: text(`"`), `"\\"`: text(`\`), `"\n"`: text("\n"), `"\\n"`: text(`\n`),
		"\"\r\t\x00\xff\"": text("\r\t\x00\xff"), `"12i"`: text("12i"), `" "`: text(" "), `"i"`: text("i"),
		`"` + long + `"`: text(long), `"` + strings.Repeat(`\n`, api.MostString) + `"`: text(strings.Repeat("\n", api.MostString)),
	} {
		if got, e := Parse(s); got != want || e != api.OK {
			t.Errorf("Parse(%.80q): %.80v %v, not %.80v", s, got, e, want)
		}
	}
}

func TestParseErrors(t *testing.T) {
	long := strings.Repeat("x", api.MostString+1)
	lists := map[api.Errno][]string{
		api.ErrForm: {
			"", " ", "-", "+", ".", "e", "i", "-i", "1.", ".5", "-.5", "+1", "--1", "1-", "1.5.2", "1..2", "1e", "1e+", "1e-", "e5",
			"1e5.5", "1e5e5", "1e++5", "1.e5", " 1", "1 ", "1\n", "1,5", "1_000", "0x10", "0x1p4", "1p4", "0b1", "Inf", "-Inf",
			"inf", "infinity", "NaN", "nan", "1f", "1d", "\u0661", "1\x00", "\xff", "1\xff",
			"1ii", "+1i", "--1i", "1.0i", "1e3i", "1 i", "1I", "0x1i", "1_0i", "00000000000000000000000001i", "-00000000000000000000000001i",
			"tru", "tRUE", "TRue", "truE", "tr", "fals", "fALSE", "FAlse", "true ", " true", "yes", "tt", "ti",
			`"`, `"a`, `a"`, `a`, `"a"b"`, `"""`, `"\"`, `"\\\"`, `"\x"`, `"\N"`, `"\ "`, "\"\\\n\"", "\"\n\"", `"a" `, ` "a"`, `'a'`, `"a"i`, `"\`,
			`"` + long, `"` + long + `"x`, `"` + long + `\x"`, `"` + long + "\n\"",
		},
		api.ErrRange: {
			"1e309", "-1e309", "1e400", "1.7976931348623159e308", "-1.7976931348623159e308", "1e99999999999999999999",
			"9223372036854775808i", "-9223372036854775809i", "9999999999999999999999999i", "-9999999999999999999999999i",
			strings.Repeat("9", 400),
		},
		api.ErrLong: {
			`"` + long + `"`, `"` + long + long + `"`, `"` + strings.Repeat(`\"`, api.MostString+1) + `"`,
		},
	}
	for want, list := range lists {
		for _, s := range list {
			if v, e := Parse(s); e != want || v != (api.Value{}) {
				t.Errorf("Parse(%.80q): %.80v %v, not %v", s, v, e, want)
			}
		}
	}
}

// TestParseLongFloats has texts of 400 bytes, which are floats still, and of 401, which are none.
func TestParseLongFloats(t *testing.T) {
	for _, c := range []struct {
		head, tail string
		want       float64
	}{
		{"", "7", 7}, {"-", "7", -7}, {"1.", "", 1}, {"-1.", "e5", -1e5}, {"1e", "5", 1e5}, {"1e-", "5", 1e-5}, {"0.", "1", 0},
		{"9007199254740993.", "1", 9007199254740994}, {"-0.", "1", math.Copysign(0, -1)}, {"1", "e-380", 1e14},
	} {
		fill := 400 - len(c.head) - len(c.tail)
		s := c.head + strings.Repeat("0", fill) + c.tail
		if got, e := Parse(s); len(s) != 400 || got != Of(c.want) || e != api.OK {
			t.Errorf("%q: %v %v, not %v", s, got, e, c.want)
		}
		s = c.head + strings.Repeat("0", fill+1) + c.tail
		if got, e := Parse(s); len(s) != 401 || got != (api.Value{}) || e != api.ErrForm {
			t.Errorf("%q: %v %v, not ErrForm", s, got, e)
		}
	}
	for _, s := range []string{strings.Repeat("9", 401), strings.Repeat("1", 1<<20), "1e" + strings.Repeat("9", 399)} {
		if got, e := Parse(s); got != (api.Value{}) || e != api.ErrForm {
			t.Errorf("%d bytes: %v %v, not ErrForm", len(s), got, e)
		}
	}
}

// rounded is what s, a float's text, means by exact numbers.
func rounded(s string) float64 {
	exact, _ := new(big.Rat).SetString(s)
	f, _ := exact.Float64()
	if strings.HasPrefix(s, "-") {
		return math.Copysign(f, -1)
	}
	return f
}

// TestParseNearest holds what floats are read as against exact numbers, many of them halfway between two floats.
func TestParseNearest(t *testing.T) {
	random := rand.New(rand.NewSource(2))
	for _, f := range someFloats(4000) {
		next := math.Nextafter(f, math.Inf(1))
		sum := new(big.Rat).SetFloat64(f)
		if !math.IsInf(next, 1) {
			sum.Add(sum, new(big.Rat).SetFloat64(next))
			sum.Quo(sum, big.NewRat(2, 1))
		}
		half := sum.FloatString(1 + random.Intn(80))
		checkNearest(t, half)
		checkNearest(t, "-"+half)
		checkNearest(t, half+"1")
		checkNearest(t, strconv.FormatUint(random.Uint64(), 10)+"e"+strconv.Itoa(random.Intn(700)-360))
	}
	// From halfway between the greatest float and the power of two behind it on, a text is beyond all.
	edge := new(big.Int).Lsh(big.NewInt(1<<54-1), 970).String()
	below := new(big.Int).Sub(new(big.Int).Lsh(big.NewInt(1<<54-1), 970), big.NewInt(1)).String()
	for _, sign := range []string{"", "-"} {
		checkNearest(t, sign+below)
		if v, e := Parse(sign + edge); v != (api.Value{}) || e != api.ErrRange {
			t.Errorf("%q: %v %v, not ErrRange", sign+edge, v, e)
		}
	}
}

func checkNearest(t *testing.T, s string) {
	t.Helper()
	want, wanted := Of(rounded(s)), api.OK
	if !Formed(want) {
		want, wanted = api.Value{}, api.ErrRange
	}
	if len(s) > 400 {
		want, wanted = api.Value{}, api.ErrForm
	}
	if got, e := Parse(s); got != want || e != wanted {
		t.Errorf("%q: %v %v, not %v %v", s, got, e, want, wanted)
	}
}

func checkBack(t *testing.T, v api.Value) {
	t.Helper()
	s, e := Print(v)
	if e != api.OK {
		t.Errorf("Print(%.80v): %v", v, e)
	}
	if back, e := Parse(s); back != v || e != api.OK {
		t.Errorf("%.80v is printed as %.80q and read as %.80v %v", v, s, back, e)
	}
}

func TestParseUndoesPrint(t *testing.T) {
	for _, v := range formed() {
		checkBack(t, v)
	}
	random := rand.New(rand.NewSource(3))
	for range 20000 {
		if v := (api.Value{Kind: api.Float, Bits: random.Uint64()}); Formed(v) {
			checkBack(t, v)
		}
		checkBack(t, Of(float64(random.Int63n(1<<60))/1024))
		checkBack(t, integer(int64(random.Uint64())>>random.Intn(64)))
	}
	for range 2000 {
		bytes := make([]byte, random.Intn(40))
		for i := range bytes {
			bytes[i] = "\"\\\nnabc\x00\xff "[random.Intn(10)]
		}
		checkBack(t, text(string(bytes)))
	}
}

// TestParseAnything: whatever text comes is a formed value, whose text is read as it, or an error and nothing.
func TestParseAnything(t *testing.T) {
	random := rand.New(rand.NewSource(4))
	const letters = "0123456789.eE+-itTrueFfals\"\\n\n\xff"
	for range 200000 {
		bytes := make([]byte, random.Intn(8))
		for i := range bytes {
			bytes[i] = letters[random.Intn(len(letters))]
		}
		checkAnything(t, string(bytes))
	}
}

func FuzzParse(f *testing.F) {
	for _, s := range []string{"", "1.5e-3", "12i", "true", `"a\"\\\n"`, "-0"} {
		f.Add(s)
	}
	f.Fuzz(checkAnything)
}

func checkAnything(t *testing.T, s string) {
	v, e := Parse(s)
	switch {
	case e == api.OK && Formed(v):
		checkBack(t, v)
	case e == api.OK:
		t.Errorf("Parse(%q): %v isn't formed", s, v)
	case e != api.ErrForm && e != api.ErrRange && e != api.ErrLong || v != (api.Value{}):
		t.Errorf("Parse(%q): %v %v", s, v, e)
	}
}
