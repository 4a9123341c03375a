package merge_test

import (
	"math"
	"math/rand"
	"slices"
	"testing"

	"grist/merge"
)

// files are some of these Levels, without tombs.
func files(levels ...int) []merge.Info {
	var list []merge.Info
	for _, l := range levels {
		list = append(list, merge.Info{Level: l})
	}
	return list
}

// repeat is a Level, so many times.
func repeat(level, many int) []int {
	return slices.Repeat([]int{level}, many)
}

// TestPlan: P14.2, the document's examples, and the edges of each of its cases.
func TestPlan(t *testing.T) {
	for _, x := range []struct {
		levels []int
		want   [3]int
	}{
		{[]int{1, 1, 1, 1, 1}, [3]int{0, 4, 2}}, {[]int{2, 1}, [3]int{0, 2, 4}}, {nil, [3]int{}},
		{repeat(1, 3), [3]int{0, 3, 4}}, {repeat(1, 4), [3]int{0, 4, 2}}, {repeat(2, 4), [3]int{0, 4, 3}}, {repeat(3, 4), [3]int{0, 4, 4}}, {repeat(4, 4), [3]int{0, 4, 4}},
		{repeat(4, 3), [3]int{0, 3, 4}}, {repeat(4, 5), [3]int{0, 5, 4}}, {repeat(4, 9), [3]int{0, 9, 4}}, {repeat(3, 9), [3]int{0, 4, 4}}, {[]int{3, 3}, [3]int{0, 2, 4}},
		{[]int{2, 1, 1, 1, 1}, [3]int{1, 4, 2}}, {[]int{1, 1, 1, 2, 2, 2, 2}, [3]int{3, 4, 3}}, {[]int{2, 2, 2, 2, 1, 1, 1, 1}, [3]int{0, 4, 3}}, {[]int{3, 3, 3, 2, 1, 1, 1, 1}, [3]int{4, 4, 2}},
		{[]int{4, 4, 4, 4, 1, 1, 1, 1}, [3]int{4, 4, 2}}, {[]int{4, 4, 4, 4, 3, 3, 3}, [3]int{0, 7, 4}}, {[]int{1, 1, 2, 1, 1}, [3]int{0, 5, 4}}, {[]int{1, 1, 1, 2, 1, 1, 1}, [3]int{0, 7, 4}},
		{[]int{1, 2, 3, 4}, [3]int{0, 4, 4}}, {[]int{1, 2}, [3]int{0, 2, 4}}, {[]int{4, 4}, [3]int{0, 2, 4}}, {[]int{3}, [3]int{}}, {[]int{1}, [3]int{}}, {[]int{4}, [3]int{}},
	} {
		list := files(x.levels...)
		at, many, level := merge.Plan(list)
		if got := [3]int{at, many, level}; got != x.want {
			t.Errorf("Plan(%v): %v, not %v", x.levels, got, x.want)
		}
		checkPlan(t, list)
		for i := range list {
			list[i].Tombs = true
		}
		checkPlan(t, list)
	}
}

// TestPlanOfTheOnlyOne: P14.2, the only file is merged if it has tombs, and keeps its Level.
func TestPlanOfTheOnlyOne(t *testing.T) {
	for _, level := range []int{1, 2, 3, 4} {
		if at, many, l := merge.Plan([]merge.Info{{Level: level, Tombs: true}}); at != 0 || many != 1 || l != level {
			t.Error(level, at, many, l)
		}
		if at, many, l := merge.Plan([]merge.Info{{Level: level}}); at != 0 || many != 0 || l != 0 {
			t.Error(level, at, many, l)
		}
	}
}

// TestPlanOfOddLevels: R1 and P14.2, Levels that no file has are taken by the words.
func TestPlanOfOddLevels(t *testing.T) {
	odd := []int{math.MinInt, -1, 0, 1, 3, 4, 5, math.MaxInt}
	for _, l := range odd {
		for n := range 9 {
			checkPlan(t, files(repeat(l, n)...))
			checkPlan(t, append(files(repeat(l, n)...), files(repeat(2, 4)...)...))
		}
		checkPlan(t, []merge.Info{{Level: l, Tombs: true}})
	}
}

// eachOf calls f with all files there can be of these Levels, n of them, with tombs and without.
func eachOf(n, levels int, f func([]merge.Info)) {
	all := 1
	for range n {
		all *= 2 * levels
	}
	for code := range all {
		list := make([]merge.Info, n)
		for i := range list {
			list[i] = merge.Info{Level: code%levels + 1, Tombs: code/levels%2 == 1}
			code /= 2 * levels
		}
		f(list)
	}
}

// TestAllPlans: P14.2, all files there can be, up to six, and many more of two Levels, held against a plain reading of the document.
func TestAllPlans(t *testing.T) {
	for n := range 7 {
		eachOf(n, 4, func(list []merge.Info) { checkPlan(t, list) })
	}
	eachOf(9, 2, func(list []merge.Info) { checkPlan(t, list) })
	random := rand.New(rand.NewSource(5))
	for range 20000 {
		checkPlan(t, someFiles(random, 40))
	}
}

// someFiles are such of which some stand side by side with one Level.
func someFiles(random *rand.Rand, many int) []merge.Info {
	var list []merge.Info
	for len(list) < many && random.Intn(many) > 0 {
		level := 1 + random.Intn(4)
		for range 1 + random.Intn(5) {
			list = append(list, merge.Info{Level: level, Tombs: random.Intn(3) == 0})
		}
	}
	return list
}

// tombs is how many of the files have tombs.
func tombs(list []merge.Info) int {
	n := 0
	for _, f := range list {
		if f.Tombs {
			n++
		}
	}
	return n
}

// checkEnd: P14.3, each step leaves fewer files, or fewer with tombs; the steps end, with one file at most and no tombs.
func checkEnd(t *testing.T, list []merge.Info) {
	t.Helper()
	start := slices.Clone(list)
	for range len(start) + 1 {
		at, many, level := merge.Plan(list)
		if many == 0 {
			if at != 0 || level != 0 || len(list) > 1 || tombs(list) > 0 {
				t.Fatalf("%v ends with %v, and %d, %d, %d", start, list, at, many, level)
			}
			return
		}
		if at < 0 || many < 0 || at+many > len(list) || level < 1 || level > 4 {
			t.Fatalf("of %v: Plan(%v): %d, %d, %d", start, list, at, many, level)
		}
		next := slices.Concat(list[:at], files(level), list[at+many:])
		if len(next) >= len(list) && (len(next) > len(list) || tombs(next) >= tombs(list)) {
			t.Fatalf("of %v: behind %v comes %v", start, list, next)
		}
		list = next
	}
	t.Fatalf("%v doesn't end", start)
}

// TestPlanEnds: P14.3.
func TestPlanEnds(t *testing.T) {
	for n := range 7 {
		eachOf(n, 4, func(list []merge.Info) { checkEnd(t, list) })
	}
	random := rand.New(rand.NewSource(6))
	for range 5000 {
		checkEnd(t, someFiles(random, 100))
	}
	checkEnd(t, files(repeat(1, 5000)...))
	checkEnd(t, files(repeat(4, 5000)...))
}

func FuzzPlan(f *testing.F) {
	f.Add([]byte{1, 1, 1, 1, 129})
	f.Fuzz(func(t *testing.T, b []byte) {
		var list []merge.Info
		for _, x := range b[:min(len(b), 1000)] {
			list = append(list, merge.Info{Level: int(x%4) + 1, Tombs: x >= 128})
		}
		checkPlan(t, list)
		checkEnd(t, list)
	})
}

// TestPlanOfMany: P14.2, files are gone through once, however many they are.
func TestPlanOfMany(t *testing.T) {
	const many = 1 << 20
	list := files(repeat(4, many)...)
	checkPlan(t, list)
	checkPlan(t, append(list, files(3, 3, 3, 3)...))
	for i := range list {
		list[i].Level = 1 + i/3%3
	}
	checkPlan(t, list)
}

// TestFilesStay: R2, R3, what is handed in isn't changed, nor its spare room, and the same files have the same plan again.
func TestFilesStay(t *testing.T) {
	random := rand.New(rand.NewSource(7))
	for range 1000 {
		list := append(someFiles(random, 12), merge.Info{Level: 1}, merge.Info{Level: 1})
		kept := slices.Clone(list)
		checkPlan(t, list[:len(list)-2])
		checkPlan(t, list[:len(list)-2])
		if !slices.Equal(list, kept) {
			t.Fatalf("the files are %v now, not %v", list, kept)
		}
	}
}
