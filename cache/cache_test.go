package cache_test

import (
	"math"
	"slices"
	"strings"
	"testing"

	"grist/api"
	"grist/cache"
)

var one = place{"cpu", "v"}

// TestExamples: the document's own.
func TestExamples(t *testing.T) {
	c := cache.New(10)
	for _, v := range []api.Value{integer(1), integer(2)} {
		if e := c.Put("s", "f", api.Point{Time: 5, Value: v}); e != api.OK {
			t.Error(e)
		}
	}
	if got := c.Get("s", "f", 0, 9); !slices.Equal(got, []api.Point{{Time: 5, Value: integer(2)}}) || c.Size() != 1 {
		t.Error(got, c.Size())
	}
	if e := c.Put("s", "f", api.Point{Time: 6, Value: boolean(1)}); e != api.ErrType {
		t.Error(e)
	}
}

// TestNew: P11.1, a cache for so many points, over all columns; none, if that is below 1.
func TestNew(t *testing.T) {
	for _, many := range []int{math.MinInt, -1, 0, 1, 2, 3, 10} {
		two := newPair(many)
		two.check(t)
		for i := range max(many, 0) {
			two.expect(t, place{"s", string(rune('a' + i%3))}, int64(i), integer(1), api.OK)
		}
		two.expect(t, place{"s", "a"}, 100, integer(1), api.ErrFull)
		two.expect(t, place{"s", "z"}, 100, text("a"), api.ErrFull)
		if two.c.Size() != max(many, 0) {
			t.Error(two.c.Size(), many)
		}
	}
	two := newPair(math.MaxInt)
	two.fill(t, one, up(20)...)
}

// TestClear: P11.1, there are no points behind it, of no Kind; and there is room again.
func TestClear(t *testing.T) {
	two := newPair(3)
	for _, v := range ofEachKind() {
		two.expect(t, one, 1, v, api.OK)
		two.expect(t, one, 2, v, api.OK)
		two.expect(t, place{"mem", "v"}, 2, v, api.OK)
		two.expect(t, place{"mem", "v"}, 3, v, api.ErrFull)
		two.c.Clear()
		two.p.entries = nil
		two.check(t)
		two.checkGet(t, one, least, most)
		two.expectGone(t, one, least, most, 0)
	}
	two.c.Clear()
	two.check(t)
}

// TestNil: R1, a nil cache answers ErrArg to Put, and has nothing.
func TestNil(t *testing.T) {
	var c *cache.Cache
	if e := c.Put("s", "f", api.Point{Value: integer(1)}); e != api.ErrArg {
		t.Error(e)
	}
	if len(c.Get("s", "f", least, most)) != 0 || c.Delete("s", "f", least, most) != 0 || len(c.Columns()) != 0 || c.Size() != 0 {
		t.Error("a nil cache has points")
	}
	c.Clear()
	// One that New hasn't made has no room.
	two := pair{&cache.Cache{}, &plain{}}
	two.expect(t, one, 1, integer(1), api.ErrFull)
	two.expectGone(t, one, least, most, 0)
	two.c.Clear()
	two.check(t)
}

// TestPut: P11.2, the latest write of a time counts, whatever the times' order.
func TestPut(t *testing.T) {
	times := []int64{5, 3, 9, most, least, 0, 4, -1, most - 1, least + 1}
	for _, v := range ofEachKind() {
		two := newPair(100)
		for i, time := range times {
			two.expect(t, one, time, v, api.OK)
			if two.c.Size() != i+1 {
				t.Fatal(two.c.Size())
			}
		}
		other := v
		other.Bits, other.Text = 0, strings.Repeat("b", len(v.Text))
		for _, time := range times {
			two.expect(t, one, time, other, api.OK)
			two.expect(t, one, time, other, api.OK)
		}
		if two.c.Size() != len(times) {
			t.Fatal(two.c.Size())
		}
	}
}

// TestValues: P11.2, each value at the edges of what is formed stays as it is; one beyond them is refused.
func TestValues(t *testing.T) {
	formed := []api.Value{
		number(0), number(math.Copysign(0, -1)), number(math.MaxFloat64), number(-5e-324), integer(0), integer(math.MaxUint64), integer(1 << 63),
		boolean(0), boolean(1), text(""), text("\x00\xff\n\""), text(long(65536)),
	}
	for _, v := range formed {
		two := newPair(2)
		two.expect(t, one, 1, v, api.OK)
		for _, wrong := range unformed() {
			two.expect(t, one, 1, wrong, api.ErrArg)
			two.expect(t, one, 2, wrong, api.ErrArg)
			two.expect(t, place{"mem", "v"}, 2, wrong, api.ErrArg)
		}
	}
}

// TestKinds: P11.2, a column has points of one Kind; also its only point isn't replaced by another Kind's.
func TestKinds(t *testing.T) {
	for _, v := range ofEachKind() {
		for _, other := range ofEachKind() {
			want := api.ErrType
			if v.Kind == other.Kind {
				want = api.OK
			}
			two := newPair(100)
			two.expect(t, one, 5, v, api.OK)
			for _, time := range []int64{5, 6, 4} {
				two.expect(t, one, time, other, want)
			}
			// Other columns have Kinds of their own.
			for _, at := range []place{{"cpu", "w"}, {"mem", "v"}, {"", "cpuv"}, {"cpuv", ""}, {"v", "cpu"}} {
				two.expect(t, at, 5, other, api.OK)
			}
			// Without points it has none.
			if v.Kind != other.Kind {
				two.expectGone(t, one, 5, 5, 1)
				two.expect(t, one, 5, other, api.OK)
				two.expect(t, one, 6, v, api.ErrType)
			}
		}
	}
}

// TestFull: P11.2, a full cache still takes what replaces a point, and more where some are taken out.
func TestFull(t *testing.T) {
	two := newPair(3)
	two.fill(t, one, 1, 2)
	two.fill(t, place{"mem", "v"}, 1)
	two.expect(t, one, 3, integer(1), api.ErrFull)
	two.expect(t, place{"mem", "v"}, 2, integer(1), api.ErrFull)
	two.expect(t, place{"new", "v"}, 1, integer(1), api.ErrFull)
	two.expect(t, one, 2, integer(7), api.OK)
	two.expect(t, place{"mem", "v"}, 1, integer(8), api.OK)
	two.expectGone(t, one, 1, 1, 1)
	two.expect(t, place{"new", "v"}, 1, text("a"), api.OK)
	two.expect(t, one, 1, integer(1), api.ErrFull)
}

// TestOrderOfErrors: ErrArg ahead of ErrType, and this ahead of ErrFull.
func TestOrderOfErrors(t *testing.T) {
	two := newPair(1)
	two.fill(t, one, 1)
	two.expect(t, one, 2, boolean(2), api.ErrArg)
	two.expect(t, one, 2, api.Value{}, api.ErrArg)
	two.expect(t, one, 2, boolean(1), api.ErrType)
	two.expect(t, one, 2, integer(1), api.ErrFull)
	two.expect(t, place{"mem", "v"}, 2, boolean(2), api.ErrArg)
	two.expect(t, place{"mem", "v"}, 2, boolean(1), api.ErrFull)
	if e := cache.New(0).Put("s", "f", api.Point{}); e != api.ErrArg {
		t.Error(e)
	}
}

// TestGet: P11.3, from and to are both in; from behind to there is nothing.
func TestGet(t *testing.T) {
	two := newPair(100)
	two.fill(t, one, 5, 1, 3, least, most)
	two.fill(t, place{"cpu", "w"}, 2, 3)
	bounds := []int64{least, least + 1, 0, 1, 2, 3, 4, 5, 6, most - 1, most}
	for _, from := range bounds {
		for _, to := range bounds {
			for _, at := range []place{one, {"cpu", "w"}, {"cpu", "x"}, {"c", "puv"}, {"", ""}} {
				two.checkGet(t, at, from, to)
			}
		}
	}
	two.check(t)
	if got := two.c.Get("cpu", "v", 1, 3); len(got) != 2 || got[0].Time != 1 || got[1].Time != 3 {
		t.Error(got)
	}
}

// TestDelete: P11.3, what is from from to to is gone, both ones in, and nothing else.
func TestDelete(t *testing.T) {
	bounds := []int64{least, least + 1, 0, 1, 2, 3, 4, 5, 6, most - 1, most}
	for _, from := range bounds {
		for _, to := range bounds {
			two := newPair(100)
			two.fill(t, one, 5, 1, 3, least, most)
			two.fill(t, place{"cpu", "w"}, 2, 3)
			n := two.remove(t, one, from, to)
			two.check(t)
			two.expectGone(t, one, from, to, 0)
			for _, at := range []place{{"cpu", "x"}, {"c", "puv"}, {"", ""}, {"mem", "v"}} {
				two.expectGone(t, at, from, to, 0)
			}
			if from > to && n > 0 {
				t.Fatal(from, to, n)
			}
		}
	}
	two := newPair(100)
	two.fill(t, one, 5, 1, 3)
	two.expectGone(t, one, 3, 5, 2)
	two.expectGone(t, one, 1, 1, 1)
	if len(two.c.Columns()) != 0 {
		t.Error("a column without points is told")
	}
}

// TestColumns: P11.3, rising by series, then by field, byte by byte; any texts are series and fields, and none is taken for another.
func TestColumns(t *testing.T) {
	texts := []string{"", "a", "ab", "b", "B", "a,b", "a b", "\x00", "a\x00", "\x00a", "\xff", "é", "z", "aa", "10", "9", long(5000)}
	two := newPair(1000)
	for i, series := range slices.Backward(texts) {
		for j, field := range texts {
			at := place{series, field}
			two.put(t, at, int64(i), integer(uint64(j)))
			two.put(t, at, int64(-j), integer(uint64(i)))
		}
	}
	two.check(t)
	columns := two.c.Columns()
	if len(columns) != len(texts)*len(texts) {
		t.Error(len(columns))
	}
	for i := range columns[1:] {
		a, b := columns[i], columns[i+1]
		if a.Series > b.Series || a.Series == b.Series && a.Field >= b.Field {
			t.Errorf("%q %q ahead of %q %q", a.Series, a.Field, b.Series, b.Field)
		}
	}
	for i, series := range texts {
		if i%2 == 0 {
			two.remove(t, place{series, texts[i]}, least, most)
		}
	}
	two.check(t)
}

// TestApart: R2, caches don't influence one another, and what one answers hangs on its own calls alone.
func TestApart(t *testing.T) {
	a, b := newPair(5), newPair(5)
	a.fill(t, one, 1, 2, 3)
	b.check(t)
	b.expect(t, one, 2, text("b"), api.OK)
	a.check(t)
	a.expectGone(t, one, 1, 2, 2)
	b.check(t)
	b.c.Clear()
	a.check(t)
	for range 20 {
		again := newPair(5)
		again.fill(t, one, 3)
		if !sameColumns(again.c.Columns(), a.c.Columns()) {
			t.Fatal("alike caches answer otherwise")
		}
	}
}
