package value

import (
	"math"
	"strings"
	"testing"

	"grist/api"
)

func integer(n int64) api.Value { return api.Value{Kind: api.Integer, Bits: uint64(n)} }

func boolean(bits uint64) api.Value { return api.Value{Kind: api.Boolean, Bits: bits} }

func text(s string) api.Value { return api.Value{Kind: api.String, Text: s} }

// unformed are values that aren't formed, of every Kind and of none.
func unformed() []api.Value {
	return []api.Value{
		{}, {Kind: -1}, {Kind: 5}, {Kind: math.MaxInt}, {Kind: math.MinInt}, {Text: "x"}, {Bits: 1},
		Of(math.NaN()), Of(math.Inf(1)), Of(math.Inf(-1)),
		{Kind: api.Float, Bits: 1<<64 - 1}, {Kind: api.Float, Bits: 0x7ff<<52 | 1},
		{Kind: api.Float, Text: "x"}, {Kind: api.Integer, Text: "x"}, {Kind: api.Boolean, Text: "x"},
		boolean(2), boolean(1 << 63),
		{Kind: api.String, Bits: 1}, {Kind: api.String, Bits: 1, Text: "x"},
		text(strings.Repeat("x", api.MostString+1)),
	}
}

// formed are values that are formed, each Kind's edges among them.
func formed() []api.Value {
	list := []api.Value{
		integer(0), integer(1), integer(-1), integer(math.MaxInt64), integer(math.MinInt64),
		boolean(0), boolean(1),
		text(""), text("\"\\\n"), text("\x00\xff\x7f\r\t"), text("a\\nb"), text("größe"), text("12i"),
		text(strings.Repeat("x", api.MostString)), text(strings.Repeat("\n", api.MostString)),
	}
	for _, f := range edgeFloats() {
		list = append(list, Of(f), Of(-f))
	}
	return list
}

// edgeFloats are the floats at which a text changes its form, and those beside them.
func edgeFloats() []float64 {
	list := []float64{
		0, math.SmallestNonzeroFloat64, math.MaxFloat64, 1, 1.5, 0.1, 0.3, 1e22, 1e23, 5e-324,
		498484681984085570, 5.684341886080802e-14, 5.8339553793802237e+23, math.Pi, math.E,
		2.2250738585072014e-308, 2.225073858507201e-308, 9007199254740991, 9007199254740992,
		9007199254740994, 123456789012345680000, 1125899906842624.5,
	}
	for power := -8; power <= 20; power++ {
		f := math.Pow(10, float64(power))
		list = append(list, f, math.Nextafter(f, 0), math.Nextafter(f, math.Inf(1)))
	}
	for power := -1074; power <= 1023; power += 7 {
		f := math.Ldexp(1, power)
		list = append(list, f, math.Nextafter(f, 0), math.Nextafter(f, math.Inf(1)))
	}
	return list
}

func TestFormed(t *testing.T) {
	for _, v := range formed() {
		if !Formed(v) {
			t.Errorf("%+.80v isn't formed", v)
		}
	}
	for _, v := range unformed() {
		if Formed(v) {
			t.Errorf("%+.80v is formed", v)
		}
	}
}

func TestCompareIsTheOrder(t *testing.T) {
	list := []api.Value{
		{Kind: math.MinInt}, {Kind: -1}, {},
		Of(-math.MaxFloat64), Of(-1.5), Of(-1), Of(-math.SmallestNonzeroFloat64), Of(math.Copysign(0, -1)),
		Of(0), Of(math.SmallestNonzeroFloat64), Of(1), Of(10), Of(math.MaxFloat64),
		integer(math.MinInt64), integer(-2), integer(-1), integer(0), integer(1), integer(math.MaxInt64),
		boolean(0), boolean(1), boolean(2), boolean(1 << 63),
		text(""), text("\x00"), text("A"), text("a"), text("a\x00"), text("aa"), text("b"), text("\x7f"), text("\xff"),
		{Kind: 5}, {Kind: math.MaxInt},
	}
	for i, a := range list {
		for k, b := range list {
			if got, want := Compare(a, b), min(max(i-k, -1), 1); got != want {
				t.Errorf("Compare(%v, %v): %d, not %d", a, b, got, want)
			}
		}
	}
}

func TestCompareOfWhatIsNotFormed(t *testing.T) {
	nan, minus := Of(math.NaN()), Of(-1)
	marked := Of(-2)
	marked.Text = "x"
	long := strings.Repeat("x", api.MostString+1)
	for _, c := range []struct {
		a, b api.Value
		want int
	}{
		{nan, nan, 0},
		{Of(1), nan, -1},
		{minus, nan, 1},
		{minus, Of(math.Inf(1)), 1},
		{Of(math.Inf(1)), Of(math.Inf(-1)), -1},
		{Of(math.MaxFloat64), Of(math.Inf(1)), -1},
		{marked, minus, 1},
		{marked, Of(-2), 0},
		{marked, Of(1), 1},
		{api.Value{Kind: api.Float, Text: "x"}, Of(math.Copysign(0, -1)), -1},
		{api.Value{Kind: api.Integer, Bits: 1<<64 - 1, Text: "x"}, integer(0), -1},
		{api.Value{Kind: api.Integer, Text: "x"}, integer(0), 0},
		{api.Value{Kind: api.Boolean, Bits: 1, Text: "x"}, boolean(2), -1},
		{api.Value{Kind: api.String, Bits: 9, Text: "a"}, text("a"), 0},
		{text(long), text(long + "y"), -1},
		{api.Value{Kind: 7, Bits: 1, Text: "x"}, api.Value{Kind: 7}, 0},
		{api.Value{Bits: 1}, api.Value{Text: "x"}, 0},
	} {
		if got := Compare(c.a, c.b); got != c.want {
			t.Errorf("Compare(%.80v, %.80v): %d, not %d", c.a, c.b, got, c.want)
		}
		if got := Compare(c.b, c.a); got != -c.want {
			t.Errorf("Compare(%.80v, %.80v): %d, not %d", c.b, c.a, got, -c.want)
		}
	}
}

func TestOf(t *testing.T) {
	floats := []float64{math.Copysign(0, -1), math.Inf(1), math.Inf(-1), math.NaN(), math.Float64frombits(0x7ff8<<48 | 77)}
	for _, f := range append(floats, edgeFloats()...) {
		if got, want := Of(f), (api.Value{Kind: api.Float, Bits: math.Float64bits(f)}); got != want {
			t.Errorf("Of(%v): %v, not %v", f, got, want)
		}
	}
}

func TestNumber(t *testing.T) {
	for _, c := range []struct {
		v    api.Value
		want float64
		ok   bool
	}{
		{Of(1.5), 1.5, true},
		{Of(math.Copysign(0, -1)), math.Copysign(0, -1), true},
		{Of(math.Inf(-1)), math.Inf(-1), true},
		{Of(math.NaN()), math.NaN(), true},
		{integer(0), 0, true},
		{integer(-7), -7, true},
		{integer(math.MinInt64), -1 << 63, true},
		{integer(math.MaxInt64), 1 << 63, true},
		{integer(1<<53 + 1), 1 << 53, true},
		{integer(1<<53 + 3), 1<<53 + 4, true},
		{boolean(1), 0, false},
		{text("1"), 0, false},
		{api.Value{}, 0, false},
		{api.Value{Kind: 5, Bits: 1}, 0, false},
		{api.Value{Kind: -1, Bits: 1}, 0, false},
	} {
		got, ok := Number(c.v)
		if math.Float64bits(got) != math.Float64bits(c.want) || ok != c.ok {
			t.Errorf("Number(%v): %v %v, not %v %v", c.v, got, ok, c.want, c.ok)
		}
	}
}
