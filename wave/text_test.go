package wave

import (
	"math"
	"math/rand"
	"strings"
	"testing"

	"grist/api"
)

// partTexts are parts with their texts.
func partTexts() map[float64]string {
	return map[float64]string{
		inf: "+Inf", -inf: "-Inf", 1: "1", -1: "-1", 1.5: "1.5", -2: "-2", 0.1: "0.1", 100000: "100000", 1e15: "1000000000000000",
		1e16: "1e16", -1e16: "-1e16", 0.0001: "0.0001", 0.00001: "1e-5", -0.00001: "-1e-5", 1.25e-7: "1.25e-7",
		most: "1.7976931348623157e308", -most: "-1.7976931348623157e308", least: "5e-324", -least: "-5e-324",
		1e23: "1e23", 1.0000000000000002e16: "1.0000000000000002e16", 1234567890123456.5: "1234567890123456.5",
	}
}

// bothTexts are complex numbers with their texts: the parts of partTexts, noughts and NaNs, in both places.
func bothTexts() map[string]complex128 {
	texts := map[string]float64{"0": 0, "-0": minus, "NaN": nan}
	for f, text := range partTexts() {
		texts[text] = f
	}
	list := map[string]complex128{}
	for first, a := range texts {
		for second, b := range texts {
			list[first+","+second] = complex(a, b)
		}
	}
	return list
}

func TestText(t *testing.T) {
	for want, c := range bothTexts() {
		if got := Text(c); got != want {
			t.Errorf("Text(%v): %q, not %q", c, got, want)
		}
	}
	for c, want := range map[complex128]string{
		1.5 - 2i: "1.5,-2", 0: "0,0", 1: "1,0", 1i: "0,1", complex(inf, -inf): "+Inf,-Inf", 1e16 + 0.00001i: "1e16,1e-5",
	} {
		if got := Text(c); got != want {
			t.Errorf("Text(%v): %q, not %q", c, got, want)
		}
	}
	if got := Text(complex(minus, 0)); got != "-0,0" {
		t.Errorf("%q, not -0,0", got)
	}
}

// TestTextOfEachNaN has NaNs of other bits, the sign bit among them: they have one text.
func TestTextOfEachNaN(t *testing.T) {
	for _, bits := range []uint64{0x7ff8 << 48, 0x7ff8<<48 | 1, 0xfff8 << 48, 0x7ff<<52 | 1, 0xfff<<52 | 1, 1<<63 - 1, 1<<64 - 1} {
		f := math.Float64frombits(bits)
		for want, c := range map[string]complex128{"NaN,NaN": complex(f, f), "NaN,-0": complex(f, minus), "-Inf,NaN": complex(-inf, f)} {
			if got := Text(c); got != want {
				t.Errorf("a NaN of the bits %x: %q, not %q", bits, got, want)
			}
		}
	}
}

func TestRead(t *testing.T) {
	for s, want := range bothTexts() {
		if got, e := Read(s); !same(got, want) || e != api.OK {
			t.Errorf("Read(%q): %v %v, not %v", s, got, e, want)
		}
	}
	if got, e := Read("1.5,-2"); got != 1.5-2i || e != api.OK {
		t.Errorf("%v %v", got, e)
	}
}

// wrongParts are no part's texts, most of them read by layer 1 as something.
func wrongParts() []string {
	return []string{
		"", " ", "-", "+", ".", "x", "1 ", " 1", "1\n", "1\x00", "\xff", "+1", "--1", "1.", ".5", "-.5", "1.0", "1.50", "01", "-01", "00",
		"-00", "0.0", "-0.0", "1e", "1e0", "1e3", "1e15", "1E16", "1e+16", "1e016", "10e15", "1.0e16", "0.1e17", "10000000000000000",
		"0.00001", "1e-4", "1e-05", "1E-5", "0e0", "1e-400", "-1e-400", "4e-324", "4.9e-324", "1e400", "-1e400", "1e309",
		"1.7976931348623158e308", "1.79769313486231570e308", "100000000000000000000000", "0.10000000000000001", "0.1000000000000000055511151231257827",
		"1234567890123456789", "9007199254740993",
		"1i", "-2i", "0i", "9223372036854775808i", "t", "T", "true", "f", "false", `""`, `"1"`, `"NaN"`, `"`, "'1'",
		"nan", "NAN", "Nan", "+NaN", "-NaN", "NaN ", " NaN", "NaN1", "NaNNaN", "Inf", "inf", "+inf", "-inf", "+INF", "++Inf", "--Inf",
		"Infinity", "+Infinity", "-Infinity", "+Inf ", " +Inf", "+Inf1", "+Infi", "∞", "0x10", "0x1p4", "1_0", "1;2", "(1", "1)",
		"1" + strings.Repeat("0", 399), "1" + strings.Repeat("0", 400), strings.Repeat("9", 500), strings.Repeat("0", 1<<16),
		`"` + strings.Repeat("x", api.MostString+1) + `"`,
	}
}

func checkWrong(t *testing.T, s string) {
	t.Helper()
	if c, e := Read(s); e != api.ErrForm || !same(c, 0) {
		t.Errorf("Read(%.80q): %v %v, not ErrForm", s, c, e)
	}
}

func TestReadErrors(t *testing.T) {
	for _, part := range wrongParts() {
		checkWrong(t, part)
		checkWrong(t, part+",")
		checkWrong(t, ","+part)
		checkWrong(t, part+","+part)
		for _, right := range []string{"0", "1.5", "-0", "NaN", "+Inf", "-Inf"} {
			checkWrong(t, part+","+right)
			checkWrong(t, right+","+part)
		}
	}
}

// TestReadCommas has too few commas, too many, and others in their place, around texts of parts.
func TestReadCommas(t *testing.T) {
	for _, s := range []string{
		"", ",", ",,", "1", "-0", "NaN", "+Inf", "1,", ",1", ",1,2", "1,2,", "1,,2", "1,2,3", "NaN,NaN,NaN", "1,2,NaN", ",,1,2", "1,2,,",
		"1;2", "1 2", "1, 2", "1 ,2", " 1,2", "1,2 ", "1,2\n", "\n1,2", "1,2\x00", "1.2", "1，2", "(1,2)", "(1+2i)", "1+2i", "1,2i", "1i,2",
		`"1,2"`, `"1,2",3`, `1,"2,3"`, `"a,b"`, `"",""`, "true,false", "+Inf,Inf", "Inf,+Inf", "+Inf-Inf", "NaNNaN",
	} {
		checkWrong(t, s)
	}
}

// anyFloat is a float of any bits, or one of few digits, or of those with a text of its own.
func anyFloat(random *rand.Rand) float64 {
	switch random.Intn(4) {
	case 0:
		return math.Float64frombits(random.Uint64())
	case 1:
		return float64(random.Int63n(1e7)-5e6) / 1000
	case 2:
		return math.Ldexp(random.Float64()-0.5, random.Intn(200)-100)
	}
	parts := someParts()
	return parts[random.Intn(len(parts))]
}

func TestReadUndoesText(t *testing.T) {
	list := someNumbers()
	random := rand.New(rand.NewSource(3))
	for range 50000 {
		list = append(list, complex(anyFloat(random), anyFloat(random)))
	}
	for _, c := range list {
		if back, e := Read(Text(c)); !same(back, c) || e != api.OK {
			t.Errorf("%v is printed as %q and read as %v %v", c, Text(c), back, e)
		}
	}
}

// checkAnything: whatever comes is a complex number with that text, or ErrForm and nothing.
func checkAnything(t *testing.T, s string) {
	c, e := Read(s)
	if e == api.OK && Text(c) != s {
		t.Errorf("Read(%q): %v, whose text is %q", s, c, Text(c))
	}
	if e != api.OK {
		checkWrong(t, s)
	}
}

func TestReadAnything(t *testing.T) {
	random := rand.New(rand.NewSource(4))
	const letters = "01259.e+-,,,\"iINnfatr "
	for range 300000 {
		bytes := make([]byte, random.Intn(9))
		for i := range bytes {
			bytes[i] = letters[random.Intn(len(letters))]
		}
		checkAnything(t, string(bytes))
	}
	// And texts with one byte changed.
	for range 100000 {
		bytes := []byte(Text(complex(anyFloat(random), anyFloat(random))))
		bytes[random.Intn(len(bytes))] = letters[random.Intn(len(letters))]
		checkAnything(t, string(bytes))
	}
}

func FuzzRead(f *testing.F) {
	for _, s := range []string{"", ",", "1.5,-2", "NaN,+Inf", "-Inf,-0", "1e16,1e-5", "1,2,3", "1i,t"} {
		f.Add(s)
	}
	f.Fuzz(checkAnything)
}
