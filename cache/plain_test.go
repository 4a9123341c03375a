package cache_test

import (
	"fmt"
	"math"
	"math/rand"
	"slices"
	"strings"
	"testing"

	"grist/api"
	"grist/cache"
)

const (
	least = math.MinInt64
	most  = math.MaxInt64
)

// place is a series and a field.
type place struct{ series, field string }

// entry is a point of a column.
type entry struct {
	at place
	p  api.Point
}

// plain is a cache as the document tells it, a list of points in no order: what a Cache is held against.
type plain struct {
	most    int
	entries []entry
}

func plainFormed(v api.Value) bool {
	f := math.Float64frombits(v.Bits)
	switch v.Kind {
	case api.Float:
		return v.Text == "" && f-f == 0
	case api.Integer:
		return v.Text == ""
	case api.Boolean:
		return v.Text == "" && (v.Bits == 0 || v.Bits == 1)
	}
	return v.Kind == api.String && v.Bits == 0 && len(v.Text) < 65537
}

func (p *plain) put(at place, point api.Point) api.Errno {
	if !plainFormed(point.Value) {
		return api.ErrArg
	}
	there := -1
	for i, x := range p.entries {
		if x.at == at && x.p.Value.Kind != point.Value.Kind {
			return api.ErrType
		}
		if x.at == at && x.p.Time == point.Time {
			there = i
		}
	}
	switch {
	case there >= 0:
		p.entries[there].p = point
	case len(p.entries) >= p.most:
		return api.ErrFull
	default:
		p.entries = append(p.entries, entry{at, point})
	}
	return api.OK
}

func (x entry) within(at place, from, to int64) bool {
	return x.at == at && from <= x.p.Time && x.p.Time <= to
}

func (p *plain) get(at place, from, to int64) []api.Point {
	var list []api.Point
	for _, x := range p.entries {
		if x.within(at, from, to) {
			list = append(list, x.p)
		}
	}
	slices.SortFunc(list, func(a, b api.Point) int {
		if a.Time < b.Time {
			return -1
		}
		return 1
	})
	return list
}

func (p *plain) remove(at place, from, to int64) int {
	was := len(p.entries)
	p.entries = slices.DeleteFunc(p.entries, func(x entry) bool { return x.within(at, from, to) })
	return was - len(p.entries)
}

func (p *plain) columns() []api.Column {
	var list []api.Column
	for _, x := range p.entries {
		i := 0
		for i < len(list) && (list[i].Series < x.at.series || list[i].Series == x.at.series && list[i].Field < x.at.field) {
			i++
		}
		if i == len(list) || list[i].Series != x.at.series || list[i].Field != x.at.field {
			list = slices.Insert(list, i, api.Column{Series: x.at.series, Field: x.at.field, Points: p.get(x.at, least, most)})
		}
	}
	return list
}

// short is some points in few words, however many they are.
func short(some any) string {
	text := fmt.Sprint(some)
	if len(text) > 300 {
		text = text[:300] + " and so on"
	}
	return text
}

// spoil writes over an answer, its spare room too: it is the asker's own.
func spoil(points []api.Point) {
	for i := range points[:cap(points)] {
		points[:cap(points)][i] = api.Point{Time: 77, Value: api.Value{Kind: 9, Text: "?"}}
	}
}

func sameColumns(a, b []api.Column) bool {
	return slices.EqualFunc(a, b, func(x, y api.Column) bool {
		return x.Series == y.Series && x.Field == y.Field && slices.Equal(x.Points, y.Points)
	})
}

// pair is a cache and the plain one beside it.
type pair struct {
	c *cache.Cache
	p *plain
}

func newPair(most int) pair {
	return pair{cache.New(most), &plain{most: most}}
}

// check holds all that a cache can be asked against the plain one: twice, as what was answered first was written over.
func (two pair) check(t *testing.T) {
	t.Helper()
	for range 2 {
		if n := two.c.Size(); n != len(two.p.entries) {
			t.Fatalf("Size is %d, not %d", n, len(two.p.entries))
		}
		columns, want := two.c.Columns(), two.p.columns()
		if !sameColumns(columns, want) {
			t.Fatalf("Columns are %s, not %s", short(columns), short(want))
		}
		for i, x := range columns {
			spoil(x.Points)
			if i+1 < len(columns) && !slices.Equal(columns[i+1].Points, want[i+1].Points) {
				t.Fatal("two columns of an answer share memory")
			}
		}
		columns = columns[:cap(columns)]
		for i := range columns {
			columns[i] = api.Column{Series: "?", Points: []api.Point{{Time: 77}}}
		}
		for _, x := range want {
			two.checkGet(t, place{x.Series, x.Field}, least, most)
		}
	}
}

func (two pair) checkGet(t *testing.T, at place, from, to int64) {
	t.Helper()
	points, want := two.c.Get(at.series, at.field, from, to), two.p.get(at, from, to)
	if !slices.Equal(points, want) {
		t.Fatalf("Get(%q, %d, %d) is %s, not %s", at, from, to, short(points), short(want))
	}
	spoil(points)
}

// put does Put on both, without a look at what else there is.
func (two pair) put(t *testing.T, at place, time int64, v api.Value) api.Errno {
	t.Helper()
	p := api.Point{Time: time, Value: v}
	want := two.p.put(at, p)
	if e := two.c.Put(at.series, at.field, p); e != want {
		t.Fatalf("Put(%q, %s): %v, not %v", at, short(p), e, want)
	}
	return want
}

func (two pair) remove(t *testing.T, at place, from, to int64) int {
	t.Helper()
	want := two.p.remove(at, from, to)
	if n := two.c.Delete(at.series, at.field, from, to); n != want {
		t.Fatalf("Delete(%q, %d, %d): %d, not %d", at, from, to, n, want)
	}
	return want
}

// expect does Put, which must be answered so, and looks at all there is.
func (two pair) expect(t *testing.T, at place, time int64, v api.Value, want api.Errno) {
	t.Helper()
	if e := two.put(t, at, time, v); e != want {
		t.Fatalf("Put(%q, %d, %s): %v, not %v", at, time, short(v), e, want)
	}
	two.check(t)
}

// fill puts points at these times into the column.
func (two pair) fill(t *testing.T, at place, times ...int64) {
	t.Helper()
	for _, time := range times {
		two.expect(t, at, time, integer(uint64(time)), api.OK)
	}
}

func (two pair) expectGone(t *testing.T, at place, from, to int64, want int) {
	t.Helper()
	if n := two.remove(t, at, from, to); n != want {
		t.Fatalf("Delete(%q, %d, %d): %d, not %d", at, from, to, n, want)
	}
	two.check(t)
}

func integer(n uint64) api.Value { return api.Value{Kind: api.Integer, Bits: n} }
func text(s string) api.Value    { return api.Value{Kind: api.String, Text: s} }
func number(f float64) api.Value { return api.Value{Kind: api.Float, Bits: math.Float64bits(f)} }
func boolean(b uint64) api.Value { return api.Value{Kind: api.Boolean, Bits: b} }
func ofEachKind() []api.Value    { return []api.Value{number(1.5), integer(2), boolean(1), text("a")} }
func long(n int) string          { return strings.Repeat("a", n) }
func up(n int) []int64           { return timesBy(n, func(i int) int { return i }) }
func downward(n int) []int64     { return timesBy(n, func(i int) int { return n - 1 - i }) }
func mixed(n int, r int64) []int64 {
	order := rand.New(rand.NewSource(r)).Perm(n)
	return timesBy(n, func(i int) int { return order[i] })
}

// timesBy is n times, three apart.
func timesBy(n int, number func(int) int) []int64 {
	var times []int64
	for i := range n {
		times = append(times, 3*int64(number(i)))
	}
	return times
}

// unformed are values that aren't formed.
func unformed() []api.Value {
	return []api.Value{
		{}, {Kind: 5}, {Kind: -1}, {Kind: 256 + api.Boolean}, {Kind: 9, Text: "a"}, {Kind: math.MaxInt}, {Kind: math.MinInt},
		number(math.NaN()), number(math.Inf(1)), number(math.Inf(-1)), {Kind: api.Float, Text: "a"}, {Kind: api.Integer, Bits: 1, Text: "1"},
		boolean(2), boolean(1 << 63), {Kind: api.Boolean, Bits: 1, Text: "t"}, {Kind: api.String, Bits: 1}, text(long(65537)),
	}
}
