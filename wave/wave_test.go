package wave

import (
	"math"
	"math/big"
	"math/rand"
	"testing"
)

var (
	minus = math.Copysign(0, -1)
	inf   = math.Inf(1)
	nan   = math.NaN()
	most  = math.MaxFloat64
	least = math.SmallestNonzeroFloat64
)

// alike tells whether both have the same bits; each NaN is alike to each.
func alike(a, b float64) bool {
	return math.Float64bits(a) == math.Float64bits(b) || math.IsNaN(a) && math.IsNaN(b)
}

// same holds complex numbers against each other part by part: == takes -0 for 0, and no NaN for itself.
func same(a, b complex128) bool {
	return alike(real(a), real(b)) && alike(imag(a), imag(b))
}

// someParts are the floats at which a part's text or what is done with it might go wrong.
func someParts() []float64 {
	list := []float64{0, minus, inf, -inf, nan, math.Copysign(nan, -1), math.Float64frombits(0x7ff8<<48 | 77)}
	for _, f := range []float64{1, 1.5, 0.1, 4, 10, 1e15, 1e16, 1e100, 0.0001, 0.00001, 123456.789, 1 << 53, most, least, math.Pi} {
		list = append(list, f, -f)
	}
	return list
}

// someNumbers are complex numbers of all pairs of parts.
func someNumbers() []complex128 {
	var list []complex128
	for _, a := range someParts() {
		for _, b := range someParts() {
			list = append(list, complex(a, b))
		}
	}
	return list
}

// places are ints and what they are modulo 4, from 0 to 3.
func places() map[int]int {
	return map[int]int{
		0: 0, 1: 1, 2: 2, 3: 3, 4: 0, 5: 1, 6: 2, 7: 3, 8: 0, 9: 1, 102: 2, 1<<30 + 3: 3, 1 << 30: 0,
		-1: 3, -2: 2, -3: 1, -4: 0, -5: 3, -6: 2, -7: 1, -8: 0, -9: 3, -102: 2, -1<<30 + 3: 3, -1 << 30: 0,
		math.MaxInt: 3, math.MaxInt - 1: 2, math.MaxInt - 2: 1, math.MaxInt - 3: 0, math.MaxInt - 4: 3,
		math.MinInt: 0, math.MinInt + 1: 1, math.MinInt + 2: 2, math.MinInt + 3: 3, math.MinInt + 4: 0,
	}
}

func TestSum(t *testing.T) {
	for _, c := range []struct {
		row  []float64
		want complex128
	}{
		{nil, complex(0, 0)},
		{[]float64{}, complex(0, 0)},
		{[]float64{1}, complex(1, 0)},
		{[]float64{1, 2}, complex(1, 2)},
		{[]float64{1, 2, 3}, complex(-2, 2)},
		{[]float64{1, 2, 3, 4}, complex(-2, -2)},
		{[]float64{1, 2, 3, 4, 5}, complex(3, -2)},
		{[]float64{1, 2, 3, 4, 5, 6}, complex(3, 4)},
		{[]float64{1, 2, 3, 4, 5, 6, 7}, complex(-4, 4)},
		{[]float64{1, 2, 3, 4, 5, 6, 7, 8}, complex(-4, -4)},
		{[]float64{1, 2, 3, 4, 5, 6, 7, 8, 9}, complex(5, -4)},
		{[]float64{1, 2, 4, 8, 16, 32, 64, 128, 256}, complex(1-4+16-64+256, 2-8+32-128)},
		{[]float64{1.5, -2.5, 0.25, -0.125}, complex(1.25, -2.375)},
		// A part begins with 0, so that it is never -0.
		{[]float64{minus}, complex(0, 0)},
		{[]float64{minus, minus}, complex(0, 0)},
		{[]float64{minus, minus, 0, 0}, complex(0, 0)},
		{[]float64{0, 0, minus, minus}, complex(0, 0)},
		{[]float64{0, 0, 0, 0, minus, minus, 0, 0}, complex(0, 0)},
		{[]float64{-1, 1, -1, 1}, complex(0, 0)},
		{[]float64{-least, least, least, -least}, complex(-2*least, 2*least)},
		// What can't be added stays in its own part.
		{[]float64{inf}, complex(inf, 0)},
		{[]float64{1, inf, 2, 3}, complex(-1, inf)},
		{[]float64{1, 2, inf, 3}, complex(-inf, -1)},
		{[]float64{1, 2, 3, inf, 4}, complex(2, -inf)},
		{[]float64{inf, -inf, -inf, inf}, complex(inf, -inf)},
		{[]float64{inf, 1, inf, 2, 5}, complex(nan, -1)},
		{[]float64{1, -inf, 2, -inf, 5}, complex(4, nan)},
		{[]float64{nan, 1, 2, 3}, complex(nan, -2)},
		{[]float64{1, 2, 3, nan, 5, 6}, complex(3, nan)},
		{[]float64{nan, nan, nan, nan}, complex(nan, nan)},
		{[]float64{most, -most, -most, most}, complex(inf, -inf)},
	} {
		if got := Sum(c.row); !same(got, c.want) {
			t.Errorf("Sum(%v): %v, not %v", c.row, got, c.want)
		}
	}
}

// TestSumInOrder has rows whose sum is another one, if the numbers are added in another order, or rounded at the end alone.
func TestSumInOrder(t *testing.T) {
	for _, c := range []struct {
		part []float64
		want float64
	}{
		{[]float64{0.1, -0.2, 0.3}, 0.6000000000000001},
		{[]float64{0.3, -0.2, 0.1}, 0.6},
		{[]float64{1e16, -1, 1}, 1e16},
		{[]float64{1, -1, 1e16}, 1e16 + 2},
		{[]float64{1, 1e16, 0, -1e16}, 0},
		{[]float64{1, 1e16, 0, -1e16, 1e16, 1e16, 1}, 1},
		{[]float64{1, -math.Ldexp(1, -53), math.Ldexp(1, -53), -math.Ldexp(1, -53)}, 1},
		{[]float64{math.Ldexp(1, -53), -math.Ldexp(1, -53), 1}, 1 + math.Ldexp(1, -52)},
		{[]float64{most, most, most, most, most}, most},
		{[]float64{most, -most, most, most, most, most}, inf},
		{[]float64{least, 1, 1}, 0},
		{[]float64{1, 1, least}, least},
	} {
		var reals, imags []float64
		for _, v := range c.part {
			reals = append(reals, v, 7)
			imags = append(imags, 7, v)
		}
		if got := real(Sum(reals)); !alike(got, c.want) {
			t.Errorf("Sum(%v): real part %v, not %v", reals, got, c.want)
		}
		if got := imag(Sum(imags)); !alike(got, c.want) {
			t.Errorf("Sum(%v): imaginary part %v, not %v", imags, got, c.want)
		}
	}
}

// exactly is a + v (a - v, if taken) worked out by exact numbers and rounded once, of finite a and v, a not -0.
func exactly(a, v float64, taken bool) float64 {
	x, y := new(big.Rat).SetFloat64(a), new(big.Rat).SetFloat64(v)
	if taken {
		y.Neg(y)
	}
	sum, _ := x.Add(x, y).Float64()
	return sum
}

// TestSumRounds holds sums of rows of all lengths against exact numbers, rounded at each step.
func TestSumRounds(t *testing.T) {
	random := rand.New(rand.NewSource(1))
	for range 3000 {
		row := make([]float64, random.Intn(24))
		var parts [2]float64
		for i := range row {
			row[i] = math.Ldexp(random.Float64()-0.5, random.Intn(120)-60)
			parts[i%2] = exactly(parts[i%2], row[i], i/2%2 == 1)
		}
		if got, want := Sum(row), complex(parts[0], parts[1]); !same(got, want) {
			t.Errorf("Sum(%v): %v, not %v", row, got, want)
		}
	}
}

func TestSumLeavesTheRow(t *testing.T) {
	whole := []float64{1, 2, 3, minus, 5, 6, 7}
	if got := Sum(whole[1:4]); !same(got, complex(2-0, 3)) {
		t.Errorf("a piece of a row: %v", got)
	}
	for i, want := range []float64{1, 2, 3, minus, 5, 6, 7} {
		if !alike(whole[i], want) {
			t.Errorf("place %d is %v now", i, whole[i])
		}
	}
}

func TestSumOfALongRow(t *testing.T) {
	row := make([]float64, 1<<20+1)
	for i := range row {
		row[i] = []float64{3, 5, 1, 2}[i%4]
	}
	if got, want := Sum(row), complex(2*(1<<18)+3, 3*(1<<18)); got != want {
		t.Errorf("%v, not %v", got, want)
	}
}

func TestSpin(t *testing.T) {
	for k, quarters := range places() {
		for _, c := range someNumbers() {
			a, b := real(c), imag(c)
			want := [4]complex128{c, complex(-b, a), complex(-a, -b), complex(b, -a)}[quarters]
			if got := Spin(c, k); !same(got, want) {
				t.Errorf("Spin(%v, %d): %v, not %v", c, k, got, want)
			}
		}
	}
	for k, want := range []complex128{1 + 2i, -2 + 1i, -1 - 2i, 2 - 1i} {
		if got := Spin(1+2i, k); got != want {
			t.Errorf("Spin(1+2i, %d): %v, not %v", k, got, want)
		}
	}
}

// TestSpinKeepsSigns has the parts that a product with 1i gets wrong, each written out.
func TestSpinKeepsSigns(t *testing.T) {
	for _, c := range []struct {
		c    complex128
		k    int
		want complex128
	}{
		{complex(0, 0), 0, complex(0, 0)},
		{complex(0, 0), 1, complex(minus, 0)},
		{complex(0, 0), 2, complex(minus, minus)},
		{complex(0, 0), 3, complex(0, minus)},
		{complex(0, 0), -1, complex(0, minus)},
		{complex(minus, 0), 4, complex(minus, 0)},
		{complex(minus, minus), 1, complex(0, minus)},
		{complex(minus, minus), 2, complex(0, 0)},
		{complex(minus, minus), -5, complex(minus, 0)},
		{complex(inf, 1), 1, complex(-1, inf)},
		{complex(inf, -inf), 2, complex(-inf, inf)},
		{complex(3, inf), -1, complex(inf, -3)},
		{complex(nan, 2), 1, complex(-2, nan)},
		{complex(2, nan), 3, complex(nan, -2)},
	} {
		if got := Spin(c.c, c.k); !same(got, c.want) {
			t.Errorf("Spin(%v, %d): %v, not %v", c.c, c.k, got, c.want)
		}
	}
}

func TestStep(t *testing.T) {
	for n, place := range places() {
		for _, c := range someNumbers() {
			for _, v := range []float64{0, minus, 1, -2.5, 1e-5, inf, -inf, nan, most, least} {
				a, b := real(c), imag(c)
				want := [4]complex128{complex(a+v, b), complex(a, b+v), complex(a-v, b), complex(a, b-v)}[place]
				if got := Step(c, v, n); !same(got, want) {
					t.Errorf("Step(%v, %v, %d): %v, not %v", c, v, n, got, want)
				}
			}
		}
	}
	for n, want := range []complex128{6 + 1i, 1 + 6i, -4 + 1i, 1 - 4i} {
		if got := Step(1+1i, 5, n); got != want {
			t.Errorf("Step(1+1i, 5, %d): %v, not %v", n, got, want)
		}
	}
}

// TestStepKeepsTheOtherPart has a -0 in both parts: the one that nothing is added to stays so.
func TestStepKeepsTheOtherPart(t *testing.T) {
	c := complex(minus, minus)
	for n, want := range map[int]complex128{
		0: complex(0, minus), 1: complex(minus, 0), 2: complex(minus, minus), 3: complex(minus, minus), -3: complex(minus, 0),
	} {
		if got := Step(c, 0, n); !same(got, want) {
			t.Errorf("Step(%v, 0, %d): %v, not %v", c, n, got, want)
		}
	}
	for n, want := range map[int]complex128{
		0: complex(minus, minus), 1: complex(minus, minus), 2: complex(0, minus), 3: complex(minus, 0), -1: complex(minus, 0),
	} {
		if got := Step(c, minus, n); !same(got, want) {
			t.Errorf("Step(%v, -0, %d): %v, not %v", c, n, got, want)
		}
	}
}

// TestStepsAreTheSum: a row taken step by step, from any multiple of four on, is its sum.
func TestStepsAreTheSum(t *testing.T) {
	random := rand.New(rand.NewSource(2))
	for range 1000 {
		row := make([]float64, random.Intn(10))
		var got complex128
		begin := 4 * (random.Intn(2000) - 1000)
		for i := range row {
			row[i] = random.NormFloat64()
			got = Step(got, row[i], begin+i)
		}
		if want := Sum(row); !same(got, want) {
			t.Errorf("steps of %v from %d: %v, not %v", row, begin, got, want)
		}
	}
}
