package tomb_test

import (
	"math/rand"
	"slices"
	"strconv"
	"testing"

	"grist/api"
	"grist/tomb"
)

// TestExamples: the document's own.
func TestExamples(t *testing.T) {
	list := []tomb.Tomb{{Series: "s", To: 9}}
	if !tomb.Covers(list, "s", "f", 9) {
		t.Error("9 isn't covered")
	}
	if tomb.Covers(list, "s", "f", 10) {
		t.Error("10 is covered")
	}
}

// TestCovers: P13.2, both bounds are in, of that Series and Field alone.
func TestCovers(t *testing.T) {
	list := []tomb.Tomb{{Series: "s", Field: "f", From: 2, To: 4}, {Series: "t", From: -3, To: -1}, {Series: "u", Field: "g", From: 7, To: 7}, {Series: "v", From: least, To: most}}
	for _, x := range []struct {
		series, field string
		time          int64
		want          bool
	}{
		{"s", "f", 1, false}, {"s", "f", 2, true}, {"s", "f", 3, true}, {"s", "f", 4, true}, {"s", "f", 5, false},
		{"s", "f", -3, false}, {"s", "g", 3, false}, {"s", "", 3, false}, {"s", "ff", 3, false}, {"S", "f", 3, false}, {"", "f", 3, false}, {"sf", "", 3, false}, {"s\x00", "f", 3, false},
		{"t", "f", -4, false}, {"t", "f", -3, true}, {"t", "g", -1, true}, {"t", "", -2, true}, {"t", "f", 0, false}, {"tt", "f", -2, false}, {"", "t", -2, false},
		{"u", "g", 6, false}, {"u", "g", 7, true}, {"u", "g", 8, false}, {"g", "u", 7, false},
		{"v", "f", least, true}, {"v", "", most, true}, {"v", long(5000), 0, true}, {"w", "f", 0, false},
	} {
		if got := tomb.Covers(list, x.series, x.field, x.time); got != x.want {
			t.Errorf("%q %q at %d: %t", x.series, x.field, x.time, got)
		}
	}
	if tomb.Covers(nil, "s", "f", 0) || tomb.Covers([]tomb.Tomb{}, "", "", 0) {
		t.Error("no tomb covers something")
	}
	if !tomb.Covers([]tomb.Tomb{{}}, "", "f", 0) || !tomb.Covers([]tomb.Tomb{{}}, "", "", 0) || tomb.Covers([]tomb.Tomb{{}}, "s", "", 0) {
		t.Error("a series may have a text without bytes")
	}
}

// TestBounds: P13.2, where a tomb begins and ends, up to the edges of what a time is; one that ends ahead of its beginning covers nothing.
func TestBounds(t *testing.T) {
	bounds := []int64{least, least + 1, -2, -1, 0, 1, 2, 3, most - 1, most}
	columns := []api.Column{column("s", "f", bounds...), column("s", "g", bounds...), column("t", "f", bounds...)}
	for _, from := range bounds {
		for _, to := range bounds {
			for _, field := range []string{"", "f", "h"} {
				list := []tomb.Tomb{{Series: "s", Field: field, From: from, To: to}}
				checkApply(t, list, columns)
				covers := tomb.Covers(list, "s", "f", from) && tomb.Covers(list, "s", "f", to)
				if covers != (from <= to && field != "h") {
					t.Errorf("%s: %t", short(list), covers)
				}
			}
		}
	}
}

// TestTombsTogether: P13.2, whatever two or three tombs have in common, in any order.
func TestTombsTogether(t *testing.T) {
	var all []tomb.Tomb
	for _, field := range []string{"", "f"} {
		for from := range int64(5) {
			for to := range int64(5) {
				all = append(all, tomb.Tomb{Series: "s", Field: field, From: from, To: to})
			}
		}
	}
	columns := []api.Column{column("s", "f", 0, 1, 2, 3, 4), column("s", "g", 4, 3, 2, 1, 0)}
	for _, a := range all {
		for _, b := range all {
			checkApply(t, []tomb.Tomb{a, b}, columns)
		}
	}
	random := rand.New(rand.NewSource(4))
	for range 20000 {
		pick := func() tomb.Tomb { return all[random.Intn(len(all))] }
		checkApply(t, []tomb.Tomb{pick(), pick(), pick(), pick()}, columns)
	}
}

// TestApply: P13.2, written out.
func TestApply(t *testing.T) {
	list := []tomb.Tomb{
		{Series: "t", From: -1, To: 9}, {Series: "s", Field: "f", From: 2, To: 3}, {Series: "s", Field: "f", From: 6, To: 6}, {Series: "s", From: 8, To: 8},
		{Series: "s", Field: "g", From: 0, To: 5}, {Series: "s", Field: "f", From: 5, To: 4}, {Series: "u", Field: "f", From: least, To: most},
	}
	columns := []api.Column{
		column("t", "f", 0, 5, 9), column("s", "f", 1, 2, 3, 4, 5, 6, 7, 8, 9), column("s", "g", 5, 6, 7, 8), column("s", "h", 7, 8), column("t", "g", -2, -1, 10),
		column("u", "f", least, 0, most), column("u", "g", 0), column("r", "f", 2), column("s", "i", 8),
	}
	at := func(c api.Column, places ...int) api.Column {
		left := api.Column{Series: c.Series, Field: c.Field}
		for _, i := range places {
			left.Points = append(left.Points, c.Points[i])
		}
		return left
	}
	want := []api.Column{
		at(columns[1], 0, 3, 4, 6, 8), at(columns[2], 1, 2), at(columns[3], 0), at(columns[4], 0, 2), columns[6], columns[7],
	}
	if got := tomb.Apply(list, columns); !sameColumns(got, want) {
		t.Error(short(got))
	}
	checkApply(t, list, columns)
}

// TestApplyOfNothing: P13.2, without tombs all stays but what has no points; without columns there are none.
func TestApplyOfNothing(t *testing.T) {
	columns := []api.Column{column("s", "f", 1, 2), column("a", "", 0), column("s", "f", 3)}
	with := slices.Concat([]api.Column{{Series: "s", Field: "e"}}, columns[:1], []api.Column{{Points: []api.Point{}}}, columns[1:], []api.Column{{}})
	for _, list := range [][]tomb.Tomb{nil, {}, {{Series: "x", From: least, To: most}}, {{Series: "s", Field: "x", From: least, To: most}}} {
		for _, all := range [][]api.Column{columns, with} {
			if got := tomb.Apply(list, all); !sameColumns(got, columns) {
				t.Errorf("Apply(%s, %s): %s", short(list), short(all), short(got))
			}
		}
		if got := tomb.Apply(list, nil); len(got) != 0 {
			t.Error(short(got))
		}
	}
	all := []tomb.Tomb{{Series: "s", From: least, To: most}, {Series: "a", From: least, To: most}}
	if got := tomb.Apply(all, with); len(got) != 0 {
		t.Error(short(got))
	}
}

// TestApplyOfOddColumns: P13.2, columns and points stay in their order, alike ones too, and values are taken as they are.
func TestApplyOfOddColumns(t *testing.T) {
	list := []tomb.Tomb{{Series: "b", Field: "", From: 3, To: 5}, {Series: "a", Field: "f", From: 0, To: 0}}
	columns := []api.Column{column("b", "g", 9, 3, 1, 6, 5, 4, 2, 9, 3), column("a", "f", 0, 1, 0, -1), column("b", "g", 3), column("b", "g", 9, 3, 1), column("a", "e", 0), column("b", "f", 2, 2, 2)}
	columns[0].Points[0].Value = api.Value{Kind: 77, Bits: 5, Text: "?"}
	columns[3].Points[0].Value = api.Value{}
	got := tomb.Apply(list, columns)
	if len(got) != 5 || len(got[0].Points) != 5 || got[0].Points[0] != columns[0].Points[0] || got[0].Points[4] != columns[0].Points[7] {
		t.Error(short(got))
	}
	checkApply(t, list, columns)
}

// TestNames: P13.2, no Series and Field are taken for others, however their bytes lie together.
func TestNames(t *testing.T) {
	names := []string{"", "a", "ab", "b", "B", "a,b", "a b", "\x00", "a\x00", "\x00a", "\xff", "é", "aa", "10", "9", long(5000)}
	var columns []api.Column
	for _, series := range names {
		for _, field := range names {
			columns = append(columns, column(series, field, 1, 2))
		}
	}
	for _, series := range names {
		for _, field := range names {
			list := []tomb.Tomb{{Series: series, Field: field, From: 1, To: 1}}
			got := tomb.Apply(list, columns)
			if !sameColumns(got, applied(list, columns)) {
				t.Errorf("%s: %s", short(list), short(got))
			}
			cut := slices.DeleteFunc(got, func(c api.Column) bool { return len(c.Points) == 2 })
			if len(cut) != 1 && (field != "" || len(cut) != len(names)) {
				t.Errorf("%s: %s", short(list), short(cut))
			}
		}
	}
}

// TestAnything: P13.2, held against a plain reading of the document.
func TestAnything(t *testing.T) {
	random := rand.New(rand.NewSource(5))
	for range 20000 {
		checkApply(t, someTombs(random, 12), someColumns(random, 6))
	}
	for range 20 {
		checkApply(t, someTombs(random, 600), someColumns(random, 60))
	}
}

func FuzzApply(f *testing.F) {
	f.Add(int64(1), uint8(3), uint8(3))
	f.Fuzz(func(t *testing.T, seed int64, tombs, columns uint8) {
		random := rand.New(rand.NewSource(seed))
		checkApply(t, someTombs(random, int(tombs)), someColumns(random, int(columns)))
	})
}

// TestMany: P13.2, as many tombs and columns as an engine may have are gone through soon: of many series, of many fields of one, of many times of one, and of all its many fields.
func TestMany(t *testing.T) {
	const many = 1 << 18
	random := rand.New(rand.NewSource(6))
	for _, names := range []func(i int) (series, field, ofTomb string){
		func(i int) (string, string, string) { return "cpu,host=" + strconv.Itoa(i), "f", "f" },
		func(i int) (string, string, string) { return "cpu", strconv.Itoa(i), strconv.Itoa(i) },
		func(i int) (string, string, string) { return "cpu", "f", "f" },
		func(i int) (string, string, string) { return "cpu", strconv.Itoa(i), "" },
	} {
		var list []tomb.Tomb
		var columns []api.Column
		for i := range many {
			series, field, ofTomb := names(i)
			list = append(list, tomb.Tomb{Series: series, Field: ofTomb, From: int64(4 * i), To: int64(4*i + 1)})
			columns = append(columns, column(series, field, int64(4*i), int64(4*i+1), int64(4*i+2)))
		}
		random.Shuffle(many, func(i, j int) { list[i], list[j] = list[j], list[i] })
		got := tomb.Apply(list, columns)
		if len(got) != many {
			t.Fatal(len(got))
		}
		for i, c := range got {
			if len(c.Points) != 1 || c.Points[0] != columns[i].Points[2] || c.Series != columns[i].Series || c.Field != columns[i].Field {
				t.Fatal(i, short(got[i:i+1]))
			}
		}
	}
}

// TestArgumentsStay: R3, what is handed in isn't changed, nor its spare room, and no answer hangs on it later.
func TestArgumentsStay(t *testing.T) {
	list := []tomb.Tomb{{Series: "t", From: 0, To: 5}, {Series: "s", Field: "f", From: 2, To: 3}, {Series: "s", Field: "f", From: 1, To: 2}}
	columns := []api.Column{column("t", "f", 1, 2), column("s", "f", 1, 2, 3, 4), column("s", "g", 1, 2), column("r", "f", 1)}
	want := applied(list, columns)
	tombRoom := append(slices.Clone(list), make([]tomb.Tomb, 3)...)
	room := append(slices.Clone(columns), make([]api.Column, 3)...)
	var points [][]api.Point
	for i, c := range room {
		points = append(points, append(slices.Clone(c.Points), make([]api.Point, 3)...))
		room[i].Points = points[i][:len(c.Points)]
	}
	got := tomb.Apply(tombRoom[:3], room[:4])
	if !tomb.Covers(tombRoom[:3], "s", "f", 1) || tomb.Covers(tombRoom[:3], "s", "g", 1) {
		t.Error("Covers")
	}
	if !slices.Equal(tombRoom, append(slices.Clone(list), make([]tomb.Tomb, 3)...)) {
		t.Errorf("the tombs are %s now", short(tombRoom))
	}
	if !sameColumns(room, append(slices.Clone(columns), make([]api.Column, 3)...)) {
		t.Errorf("the columns are %s now", short(room))
	}
	for i, all := range points {
		if !slices.Equal(all[len(all)-3:], make([]api.Point, 3)) {
			t.Errorf("the room behind the points of column %d is %v now", i, all)
		}
		clear(all)
	}
	clear(tombRoom)
	clear(room)
	if !sameColumns(got, want) {
		t.Errorf("the answer is %s now", short(got))
	}
}

// TestAnswersAreNew: R2, R3, each answer, and each list of it, has its own memory, its spare room too, and no call leaves a mark for the next one.
func TestAnswersAreNew(t *testing.T) {
	columns := []api.Column{column("t", "f", 1, 2), column("s", "f", 1, 2, 3, 4, 5, 6, 7), column("s", "g", 1, 2), column("r", "f", 1)}
	columns = append(columns, columns[2])
	for _, list := range [][]tomb.Tomb{nil, {{Series: "s", Field: "f", From: 2, To: 3}}, {{Series: "s", From: 1, To: 1}, {Series: "t", From: 2, To: 2}}} {
		want := applied(list, columns)
		one, other := tomb.Apply(list, columns), tomb.Apply(list, columns)
		for i, c := range one {
			clear(c.Points[:cap(c.Points)])
			if !sameColumns(one[i+1:], want[i+1:]) {
				t.Errorf("two columns of %s share memory", short(want))
			}
		}
		clear(one[:cap(one)])
		if !sameColumns(other, want) {
			t.Errorf("two answers share memory: %s", short(other))
		}
		checkApply(t, list, columns)
	}
}
