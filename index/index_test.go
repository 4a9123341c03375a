package index_test

import (
	"slices"
	"strconv"
	"strings"
	"testing"

	"grist/api"
	"grist/index"
	"grist/series"
)

// signs rise as names and as values, but not as texts: there the blank, # and the comma have a backslash ahead, which is above the letters of the alphabet's first case.
var signs = []string{" ", "!", "#", "+", ",", "-", "0", "10", "2", "=", ">", "A", "Z", "[", `\`, "]", "a", "a b", "a!", "a,", "a-", "aZ", "aa", "~", "\x80", "é", "\xff"}

// unformed are series that aren't formed, each like cpu,host=a but for one thing or two.
func unformed() []api.Series {
	long := strings.Repeat("x", 65)
	nine := of("cpu")
	for i := range 9 {
		nine.Tags = append(nine.Tags, api.Tag{Key: "k" + strconv.Itoa(i), Value: "v"})
	}
	return []api.Series{
		{}, of("", "host", "a"), of("cpu", "", "a"), of("cpu", "host", ""), of("cpu", "", ""), of("cpu", "host", "a", "rack", ""),
		of(long, "host", "a"), of("cpu", long, "a"), of("cpu", "host", long), nine,
		of("cpu\n"), of("cpu\x00", "host", "a"), of("cpu", "host\x1f", "a"), of("cpu", "host", "\x7fa"),
		of("cpu", "host", "a", "host", "a"), of("cpu", "host", "a", "host", "b"), of("cpu", "rack", "1", "host", "a"), of("cpu", "a", "1", "c", "3", "b", "2"),
	}
}

// TestExamples: the document's own.
func TestExamples(t *testing.T) {
	x := index.New()
	for _, s := range []api.Series{of("cpu", "host", "a"), of("cpu")} {
		if isNew, e := x.Add(s); !isNew || e != api.OK {
			t.Error(s, isNew, e)
		}
	}
	if got := x.All("cpu"); !sameSeries(got, []api.Series{of("cpu"), of("cpu", "host", "a")}) {
		t.Error(got)
	}
	if got := x.With("cpu", "host", ""); !sameSeries(got, []api.Series{of("cpu")}) {
		t.Error(got)
	}
}

// TestAdd: P16.1, new is what wasn't there, and what was dropped since.
func TestAdd(t *testing.T) {
	two := newPair()
	two.check(t)
	list := []api.Series{
		of("cpu"), of("cpu", "host", "a"), of("cpu", "host", "b"), of("cpu", "host", "a", "rack", "1"), of("cpu", "rack", "1"), of("mem", "host", "a"), of("mem"),
		of("cpu,host=a"), of("cpu", "host", "a,rack=1"), of(`cpu\`, "host", "a"), of("cpu", "host=a", "b"), of("cpu", "host", "a=b"), of("CPU"), of("cpu "), of("c"),
	}
	for i, s := range list {
		for _, want := range []bool{true, false, false} {
			if isNew, e := two.x.Add(s); isNew != want || e != api.OK {
				t.Errorf("Add(%q): %t, %v", s, isNew, e)
			}
		}
		two.p.add(s)
		for _, other := range list[i+1:] {
			two.drop(t, other)
		}
		two.check(t)
	}
	for i, s := range slices.Backward(list) {
		two.drop(t, s)
		two.drop(t, s)
		two.check(t)
		two.add(t, s)
		two.drop(t, list[(i+1)%len(list)])
		two.drop(t, s)
	}
	two.check(t)
	if len(two.x.Names()) != 0 {
		t.Error(two.x.Names())
	}
}

// TestNoTags: R4, a list of no tags is one, nil or empty.
func TestNoTags(t *testing.T) {
	x := index.New()
	none, empty := api.Series{Name: "cpu"}, api.Series{Name: "cpu", Tags: []api.Tag{}}
	for _, s := range [][2]api.Series{{none, empty}, {empty, none}} {
		if isNew, e := x.Add(s[0]); !isNew || e != api.OK {
			t.Error(isNew, e)
		}
		if isNew, e := x.Add(s[1]); isNew || e != api.OK {
			t.Error(isNew, e)
		}
		if !x.Drop(s[1]) || x.Drop(s[0]) {
			t.Error("Drop")
		}
	}
}

// TestUnformed: P16.1, what isn't formed is never there, and changes nothing.
func TestUnformed(t *testing.T) {
	for _, ahead := range [][]api.Series{{}, {of("cpu", "host", "a")}, {of("cpu"), of("cpu", "host", "a", "rack", "1"), of("mem")}} {
		two := newPair()
		for _, s := range ahead {
			two.add(t, s)
		}
		for _, s := range unformed() {
			if isNew, e := two.x.Add(s); isNew || e != api.ErrArg {
				t.Errorf("Add(%s): %t, %v", short(s), isNew, e)
			}
			if two.x.Drop(s) {
				t.Errorf("Drop(%s): true", short(s))
			}
			two.add(t, s)
			two.drop(t, s)
			two.checkOf(t, append(two.pool(), s.Name), []string{"", "host", "rack", "a"})
		}
	}
}

// TestLimits: P16.1, names of 64 bytes and 8 tags are formed.
func TestLimits(t *testing.T) {
	two := newPair()
	long := func(sign string) string { return strings.Repeat(sign, 64)[:64] }
	s := of(long("#"))
	for i := range 8 {
		key := strings.Repeat(",", 63) + strconv.Itoa(i)
		s.Tags = append(s.Tags, api.Tag{Key: key, Value: long(`\`)})
		two.add(t, s)
		two.add(t, of(long("x"), key, long("=")))
		two.check(t)
	}
	if all := two.x.All(long("#")); len(all) != 8 || len(all[7].Tags) != 8 {
		t.Error(short(all))
	}
	s.Tags = append(s.Tags, api.Tag{Key: "~", Value: "9"})
	two.add(t, s)
	two.check(t)
}

// TestDrop: P16.1, P16.2, what is dropped is told nowhere any more, and what others have is.
func TestDrop(t *testing.T) {
	two := newPair()
	list := []api.Series{
		of("cpu", "host", "a", "rack", "1"), of("cpu", "host", "a", "rack", "2"), of("cpu", "host", "b", "rack", "1"), of("cpu", "host", "b"), of("cpu", "zone", "x"), of("cpu"), of("mem", "host", "a"),
	}
	for _, s := range list {
		two.add(t, s)
	}
	two.setKind(t, "cpu", "busy", api.Float)
	two.check(t)
	for _, x := range []struct {
		s            api.Series
		keys, values []string
	}{
		{list[4], []string{"host", "rack"}, []string{"a", "b"}},
		{list[0], []string{"host", "rack"}, []string{"a", "b"}},
		{list[1], []string{"host", "rack"}, []string{"b"}},
		{list[5], []string{"host", "rack"}, []string{"b"}},
		{list[2], []string{"host"}, []string{"b"}},
		{list[3], nil, nil},
	} {
		if !two.drop(t, x.s) || two.drop(t, x.s) {
			t.Errorf("Drop(%q)", x.s)
		}
		if keys, values := two.x.Keys("cpu"), two.x.Values("cpu", "host"); !slices.Equal(keys, x.keys) || !slices.Equal(values, x.values) {
			t.Errorf("behind Drop(%q): keys %q, values %q", x.s, keys, values)
		}
		two.check(t)
	}
	if names := two.x.Names(); !slices.Equal(names, []string{"mem"}) {
		t.Errorf("%q", names)
	}
	// The kinds of fields stay: they go with Forget alone.
	if fields := two.x.Fields("cpu"); !slices.Equal(fields, []string{"busy"}) || two.x.SetKind("cpu", "busy", api.String) != api.ErrType {
		t.Errorf("%q", fields)
	}
}

// TestWith: P16.2, written out.
func TestWith(t *testing.T) {
	two := newPair()
	a, b, c, d := of("cpu", "host", "a"), of("cpu", "host", "a", "rack", "1"), of("cpu", "host", "b", "rack", "1"), of("cpu", "rack", "a")
	for _, s := range []api.Series{d, c, b, a, of("cpu"), of("mem", "host", "a", "rack", "1"), of("mem", "zone", "a")} {
		two.add(t, s)
	}
	for _, x := range []struct {
		name, key, value string
		want             []api.Series
	}{
		{"cpu", "host", "a", []api.Series{a, b}}, {"cpu", "host", "b", []api.Series{c}}, {"cpu", "rack", "1", []api.Series{b, c}}, {"cpu", "rack", "a", []api.Series{d}},
		{"cpu", "host", "", []api.Series{of("cpu"), d}}, {"cpu", "rack", "", []api.Series{of("cpu"), a}},
		{"cpu", "zone", "", []api.Series{of("cpu"), a, b, c, d}}, {"cpu", "", "", []api.Series{of("cpu"), a, b, c, d}}, {"cpu", "\n", "", []api.Series{of("cpu"), a, b, c, d}},
		{"cpu", "host", "1", nil}, {"cpu", "host", "A", nil}, {"cpu", "host", "aa", nil}, {"cpu", "zone", "a", nil}, {"cpu", "", "a", nil}, {"cpu", "a", "host", nil},
		{"mem", "host", "", []api.Series{of("mem", "zone", "a")}}, {"mem", "zone", "a", []api.Series{of("mem", "zone", "a")}},
		{"disk", "host", "", nil}, {"disk", "host", "a", nil}, {"", "", "", nil}, {"cp", "host", "", nil}, {"cpu,host=a", "rack", "1", nil},
	} {
		if got := two.x.With(x.name, x.key, x.value); !sameSeries(got, x.want) {
			t.Errorf("With(%q, %q, %q): %q", x.name, x.key, x.value, got)
		}
	}
	two.check(t)
}

// TestOrder: P16.2, names, keys and values rise themselves, series by their texts.
func TestOrder(t *testing.T) {
	if !slices.IsSorted(signs) {
		t.Fatal("the signs don't rise")
	}
	two := newPair()
	for i := range signs {
		// In an order that is none.
		one := signs[i*11%len(signs)]
		two.add(t, of(one, "k", "v"))
		two.add(t, of("s", one, "v"))
		two.add(t, of("v", "k", one))
		two.add(t, of("v", "k", one, "l", "1"))
		two.setKind(t, "f", one, 1+i%4)
	}
	two.check(t)
	for what, got := range map[string][]string{"Keys": two.x.Keys("s"), "Values": two.x.Values("v", "k"), "Fields": two.x.Fields("f")} {
		if !slices.Equal(got, signs) {
			t.Errorf("%s: %q", what, got)
		}
	}
	if got := two.x.Names(); !slices.Equal(got, once(append(slices.Clone(signs), "s", "v"))) {
		t.Errorf("Names: %q", got)
	}
	for _, list := range [][]api.Series{two.x.All("v"), two.x.All("s"), two.x.With("v", "l", "1"), two.x.With("v", "l", ""), two.x.With("s", "", "")} {
		checkRising(t, list)
	}
	if all := two.x.All("v"); len(all) != 2*len(signs) {
		t.Error(len(all))
	}
}

// TestOrderOfTexts: P16.2, by texts and not by names, values or tags: written out.
func TestOrderOfTexts(t *testing.T) {
	x := index.New()
	rising := []api.Series{
		of("cpu"), of("cpu", "host", "a"), of("cpu", "host", "a!", "rack", "1"), of("cpu", "host", "a", "rack", "1"), of("cpu", "host", "a", "rack", "10"), of("cpu", "host", "a", "rack", "2"),
		of("cpu", "host", "a-"), of("cpu", "host", "aZ"), of("cpu", "host", "a b"), of("cpu", "host", "a,"), of("cpu", "host", "aa"), of("cpu", "hostZ", "a"), of("cpu", "host ", "a"),
	}
	for _, s := range slices.Backward(rising) {
		x.Add(s)
	}
	if got := x.All("cpu"); !sameSeries(got, rising) {
		t.Errorf("%q", got)
	}
	if got := x.With("cpu", "rack", ""); !sameSeries(got, slices.Concat(rising[:2], rising[6:])) {
		t.Errorf("%q", got)
	}
	checkRising(t, rising)
}

// checkRising: the texts of the series strictly rise, byte by byte.
func checkRising(t *testing.T, list []api.Series) {
	t.Helper()
	last := ""
	for _, s := range list {
		text, e := series.Text(s)
		if e != api.OK || text <= last {
			t.Errorf("%q, %v behind %q", text, e, last)
		}
		last = text
	}
}

// TestForget: P16.3, the series and the kinds of that name alone are gone.
func TestForget(t *testing.T) {
	two := newPair()
	for _, name := range []string{"cpu", "mem", "cpu "} {
		two.add(t, of(name))
		two.add(t, of(name, "host", "a"))
		two.add(t, of(name, "host", "b", "rack", "1"))
		two.setKind(t, name, "v", api.Float)
		two.setKind(t, name, "w", api.String)
	}
	two.setKind(t, "host", "v", api.Boolean)
	two.add(t, of("net", "host", "a"))
	two.check(t)
	for _, x := range []struct {
		name string
		want int
	}{{"disk", 0}, {"", 0}, {"cpu,host=a", 0}, {"cpu", 3}, {"cpu", 0}, {"host", 0}, {"net", 1}, {"v", 0}, {"mem", 3}, {"cpu ", 3}, {"cpu ", 0}} {
		if got := two.forget(t, x.name); got != x.want {
			t.Errorf("Forget(%q): %d", x.name, got)
		}
		two.check(t)
		if x.want > 0 && (two.x.Drop(of(x.name, "host", "a")) || len(two.x.Fields(x.name)) != 0) {
			t.Errorf("behind Forget(%q) there is something", x.name)
		}
	}
	// What is forgotten may come again, otherwise.
	two.setKind(t, "cpu", "v", api.Integer)
	two.add(t, of("cpu", "host", "a"))
	two.check(t)
	if kind, there := two.x.Kind("cpu", "v"); kind != api.Integer || !there || len(two.x.All("cpu")) != 1 {
		t.Error(kind, there)
	}
}
