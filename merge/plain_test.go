package merge_test

import (
	"cmp"
	"fmt"
	"math"
	"math/rand"
	"slices"
	"strings"
	"testing"

	"grist/api"
	"grist/merge"
)

const (
	least = math.MinInt64
	most  = math.MaxInt64
)

// name is what tells columns apart.
type name struct {
	series, field string
}

func (n name) compare(other name) int {
	return cmp.Or(strings.Compare(n.series, other.series), strings.Compare(n.field, other.field))
}

func nameOf(c api.Column) name {
	return name{series: c.Series, field: c.Field}
}

// merged is the answer of Merge, as the document tells it: a table, into which the lists are laid one by one.
func merged(lists ...[]api.Column) []api.Column {
	table := map[name]map[int64]api.Value{}
	for _, list := range lists {
		counts := map[name]api.Column{}
		for _, c := range list {
			counts[nameOf(c)] = c
		}
		for n, c := range counts {
			if table[n] == nil {
				table[n] = map[int64]api.Value{}
			}
			for _, p := range c.Points {
				table[n][p.Time] = p.Value
			}
		}
	}
	return columnsOf(table)
}

func columnsOf(table map[name]map[int64]api.Value) []api.Column {
	var columns []api.Column
	for n, values := range table {
		c := api.Column{Series: n.series, Field: n.field}
		for at, v := range values {
			c.Points = append(c.Points, api.Point{Time: at, Value: v})
		}
		slices.SortFunc(c.Points, func(a, b api.Point) int { return cmp.Compare(a.Time, b.Time) })
		if len(c.Points) > 0 {
			columns = append(columns, c)
		}
	}
	slices.SortFunc(columns, func(a, b api.Column) int { return nameOf(a).compare(nameOf(b)) })
	return columns
}

// planned is the answer of Plan, as the document tells it.
func planned(files []merge.Info) [3]int {
	for i := range files {
		if i+4 > len(files) {
			break
		}
		l := files[i].Level
		if l < 4 && files[i+1].Level == l && files[i+2].Level == l && files[i+3].Level == l {
			return [3]int{i, 4, l + 1}
		}
	}
	switch {
	case len(files) >= 2:
		return [3]int{0, len(files), 4}
	case len(files) == 1 && files[0].Tombs:
		return [3]int{0, 1, files[0].Level}
	}
	return [3]int{}
}

func sameColumns(a, b []api.Column) bool {
	return slices.EqualFunc(a, b, func(x, y api.Column) bool {
		return nameOf(x) == nameOf(y) && slices.Equal(x.Points, y.Points)
	})
}

// short is some columns in few words, however many they are.
func short(columns []api.Column) string {
	var parts []string
	for _, c := range columns[:min(len(columns), 20)] {
		parts = append(parts, fmt.Sprintf("{%.40q %.40q %d %.200q}", c.Series, c.Field, len(c.Points), fmt.Sprint(c.Points[:min(len(c.Points), 20)])))
	}
	return fmt.Sprintf("%d: %.2000s", len(columns), strings.Join(parts, " "))
}

func shortLists(lists [][]api.Column) string {
	var parts []string
	for _, list := range lists[:min(len(lists), 10)] {
		parts = append(parts, short(list))
	}
	return fmt.Sprintf("%d lists: %.4000s", len(lists), strings.Join(parts, "; "))
}

func checkMerge(t *testing.T, want []api.Column, lists ...[]api.Column) {
	t.Helper()
	if got := merge.Merge(lists...); !sameColumns(got, want) {
		t.Fatalf("Merge(%s): %s, not %s", shortLists(lists), short(got), short(want))
	}
}

// checkLists holds Merge of whatever lists, and what is merged again.
func checkLists(t *testing.T, lists ...[]api.Column) {
	t.Helper()
	want := merged(lists...)
	checkMerge(t, want, lists...)
	checkMerge(t, want, want)
	checkMerge(t, want, nil, want, want, nil)
	for i := range lists {
		checkMerge(t, want, merge.Merge(lists[:i]...), merge.Merge(lists[i:]...))
	}
}

func checkPlan(t *testing.T, files []merge.Info) {
	t.Helper()
	at, many, level := merge.Plan(files)
	if got, want := [3]int{at, many, level}, planned(files); got != want {
		t.Fatalf("Plan(%v): %v, not %v", files, got, want)
	}
}

// integers are points with these times, whose values say which of them they are, and of what.
func integers(of int, times ...int64) []api.Point {
	var list []api.Point
	for i, t := range times {
		list = append(list, api.Point{Time: t, Value: api.Value{Kind: api.Integer, Bits: uint64(1000*of + i)}})
	}
	return list
}

func column(series, field string, of int, times ...int64) api.Column {
	return api.Column{Series: series, Field: field, Points: integers(of, times...)}
}

// someName is one of few, so that columns often meet.
func someName(random *rand.Rand) string {
	return []string{"", "a", "ab", "b", "\x00", "a,b", "\xff"}[random.Intn(7)]
}

// someTime is mostly one of few, at the edges of what a time is too.
func someTime(random *rand.Rand) int64 {
	switch random.Intn(8) {
	case 0:
		return least + int64(random.Intn(3))
	case 1:
		return most - int64(random.Intn(3))
	case 2:
		return int64(random.Uint64())
	}
	return int64(random.Intn(20) - 10)
}

// someValue is not always a formed one.
func someValue(random *rand.Rand) api.Value {
	return api.Value{Kind: random.Intn(6), Bits: random.Uint64(), Text: someName(random)}
}

// somePoints mostly rise; some stand in any order, and some at one time.
func somePoints(random *rand.Rand, many int) []api.Point {
	var list []api.Point
	for range random.Intn(many + 1) {
		list = append(list, api.Point{Time: someTime(random), Value: someValue(random)})
	}
	if random.Intn(3) > 0 {
		slices.SortStableFunc(list, func(a, b api.Point) int { return cmp.Compare(a.Time, b.Time) })
	}
	return list
}

// someLists are such as files have, and such as no file has: out of order, with columns and times that are alike, and without points.
func someLists(random *rand.Rand, many, columns, points int) [][]api.Column {
	var lists [][]api.Column
	for range random.Intn(many + 1) {
		var list []api.Column
		for range random.Intn(columns + 1) {
			list = append(list, api.Column{Series: someName(random), Field: someName(random), Points: somePoints(random, points)})
		}
		switch random.Intn(4) {
		case 0:
			list = merged(list)
		case 1:
			slices.SortStableFunc(list, func(a, b api.Column) int { return nameOf(a).compare(nameOf(b)) })
		}
		lists = append(lists, list)
	}
	return lists
}
