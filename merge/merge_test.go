package merge_test

import (
	"math"
	"math/rand"
	"slices"
	"strconv"
	"strings"
	"testing"

	"grist/api"
	"grist/file"
	"grist/merge"
)

// at is the points of a column at some of its places.
func at(c api.Column, places ...int) []api.Point {
	var points []api.Point
	for _, i := range places {
		points = append(points, c.Points[i])
	}
	return points
}

// TestMerge: P14.1, written out: columns and points of all lists rise, and of one time that of the latest list counts.
func TestMerge(t *testing.T) {
	a, b, c := column("s", "f", 1, 1, 5, 7), column("s", "f", 2, 3, 5), column("s", "f", 3, 5, 6, 7, 9)
	x, y, z := column("r", "g", 4, 0), column("s", "e", 5, 2, 4), column("r", "f", 6, 1, 2)
	got := merge.Merge([]api.Column{x, a}, []api.Column{y, b}, []api.Column{z, c})
	points := slices.Concat(at(a, 0), at(b, 0), at(c, 0, 1, 2, 3))
	want := []api.Column{z, x, y, {Series: "s", Field: "f", Points: points}}
	if !sameColumns(got, want) {
		t.Error(short(got))
	}
	checkLists(t, []api.Column{x, a}, []api.Column{y, b}, []api.Column{z, c})
}

// TestLatestListCounts: P14.1, whichever list has a time, in whichever order the lists come.
func TestLatestListCounts(t *testing.T) {
	one, two, three := column("s", "f", 1, 0, 1, 2, 3), column("s", "f", 2, 1, 3, 4), column("s", "f", 3, 2, 3, 5)
	for _, x := range []struct {
		lists [3]api.Column
		want  []api.Point
	}{
		{[3]api.Column{one, two, three}, slices.Concat(at(one, 0), at(two, 0), at(three, 0, 1), at(two, 2), at(three, 2))},
		{[3]api.Column{three, two, one}, slices.Concat(at(one, 0, 1, 2, 3), at(two, 2), at(three, 2))},
		{[3]api.Column{three, one, two}, slices.Concat(at(one, 0), at(two, 0), at(one, 2), at(two, 1, 2), at(three, 2))},
		{[3]api.Column{one, one, one}, one.Points},
	} {
		lists := [][]api.Column{{x.lists[0]}, {x.lists[1]}, {x.lists[2]}}
		checkMerge(t, []api.Column{{Series: "s", Field: "f", Points: x.want}}, lists...)
		checkLists(t, lists...)
	}
}

// TestLaterColumnCounts: P14.1, of two columns of one Series and Field in a list the later one counts, beside whatever others; not so of two lists.
func TestLaterColumnCounts(t *testing.T) {
	one, two, three, other := column("s", "f", 1, 1, 2, 9), column("s", "f", 2, 2, 3), column("s", "f", 3, 0), column("s", "g", 4, 1)
	checkMerge(t, []api.Column{two}, []api.Column{one, two})
	checkMerge(t, []api.Column{one}, []api.Column{two, one})
	checkMerge(t, []api.Column{two, other}, []api.Column{one, other, two})
	checkMerge(t, []api.Column{two, other}, []api.Column{other, one, two})
	checkMerge(t, []api.Column{three}, []api.Column{one, two, one, two, three})
	checkMerge(t, []api.Column{two}, []api.Column{three, one, two, two})
	empty := api.Column{Series: "s", Field: "f"}
	checkMerge(t, nil, []api.Column{one, empty})
	checkMerge(t, []api.Column{one}, []api.Column{empty, one})
	checkMerge(t, []api.Column{two}, []api.Column{two}, []api.Column{one, empty})
	both := api.Column{Series: "s", Field: "f", Points: slices.Concat(at(one, 0), two.Points, at(one, 2))}
	checkMerge(t, []api.Column{both}, []api.Column{one}, []api.Column{two})
	checkMerge(t, []api.Column{both}, []api.Column{three, one}, []api.Column{three, two})
	alike := []api.Column{one, two, three, one, other, two}
	checkLists(t, alike, alike[2:], alike[:3], alike[1:2])
}

// TestLaterPointCounts: P14.1, of two points of one time in a column the later one counts; points may stand in any order.
func TestLaterPointCounts(t *testing.T) {
	for _, x := range []struct {
		times  []int64
		places []int
	}{
		{[]int64{1, 1}, []int{1}}, {[]int64{1, 1, 1, 1, 1}, []int{4}}, {[]int64{1, 2, 2, 3}, []int{0, 2, 3}}, {[]int64{2, 1, 2}, []int{1, 2}}, {[]int64{1, 2, 1}, []int{2, 1}},
		{[]int64{3, 2, 1, 0}, []int{3, 2, 1, 0}}, {[]int64{3, 3, 2, 2, 1, 1}, []int{5, 3, 1}}, {[]int64{5, 1, 4, 1, 5, 9, 2, 6, 5}, []int{3, 6, 2, 8, 7, 5}},
		{[]int64{most, least, 0, most, least}, []int{4, 2, 3}}, {[]int64{least, most}, []int{0, 1}}, {[]int64{most, least}, []int{1, 0}}, {[]int64{-1, 1, 0, -1}, []int{3, 2, 1}},
	} {
		c := column("s", "f", 1, x.times...)
		checkMerge(t, []api.Column{{Series: "s", Field: "f", Points: at(c, x.places...)}}, []api.Column{c})
		checkLists(t, []api.Column{c}, []api.Column{column("s", "f", 2, 1, 1, 5, 2)}, []api.Column{c})
	}
}

// TestTimes: P14.1, times rise as numbers up to the edges of what a time is.
func TestTimes(t *testing.T) {
	times := []int64{least, least + 1, -1 << 32, -2, -1, 0, 1, 2, 1 << 31, 1 << 53, 1<<53 + 1, most - 1, most}
	var lists [][]api.Column
	var want []api.Point
	for i, at := range times {
		c := column("s", "f", i, at)
		lists = append(lists, []api.Column{c})
		want = append(want, c.Points...)
	}
	checkMerge(t, []api.Column{{Series: "s", Field: "f", Points: want}}, lists...)
	slices.Reverse(lists)
	checkMerge(t, []api.Column{{Series: "s", Field: "f", Points: want}}, lists...)
	for _, a := range times {
		for _, b := range times {
			checkLists(t, []api.Column{column("s", "f", 1, a, b)}, []api.Column{column("s", "f", 2, b, 0)})
		}
	}
}

// TestNames: P14.1, columns rise byte by byte by Series, then by Field, and no two are taken for one, however their bytes lie together.
func TestNames(t *testing.T) {
	names := []string{"", "\x00", "\x00a", "10", "9", "B", "a", "a\x00", "a b", "a,b", "aa", "ab", "b", strings.Repeat("b", 5000), "\u00e9", "\xff", "\xff\xff"}
	var want, old []api.Column
	for _, series := range names {
		for _, field := range names {
			n := len(want)
			want = append(want, column(series, field, n, 1, 2))
			old = append(old, column(series, field, 1000+n, 2))
		}
	}
	if !slices.IsSortedFunc(want, func(a, b api.Column) int { return nameOf(a).compare(nameOf(b)) }) {
		t.Fatal("the columns don't rise")
	}
	random := rand.New(rand.NewSource(1))
	mixed := slices.Clone(want)
	for range 20 {
		checkMerge(t, want, old, mixed)
		checkMerge(t, want, mixed[:40], nil, mixed[40:41], mixed[41:])
		random.Shuffle(len(mixed), func(i, j int) { mixed[i], mixed[j] = mixed[j], mixed[i] })
		random.Shuffle(len(old), func(i, j int) { old[i], old[j] = old[j], old[i] })
	}
	checkLists(t, mixed, old)
}

// TestValuesAreTaken: P14.1, values are taken as they are, of unlike Kinds and not formed ones too.
func TestValuesAreTaken(t *testing.T) {
	nan := api.Value{Kind: api.Float, Bits: math.Float64bits(math.NaN()) + 1}
	values := []api.Value{nan, {}, {Kind: 77, Bits: 5, Text: "?"}, {Kind: -1}, {Kind: api.Boolean, Bits: 2}, {Kind: api.String, Bits: 1, Text: strings.Repeat("x", api.MostString+1)}, {Kind: api.Integer, Bits: math.MaxUint64, Text: "\xff"}, {Kind: api.Float, Bits: 1 << 63}}
	var first, second []api.Point
	for i, v := range values {
		first = append(first, api.Point{Time: int64(i), Value: v})
		second = append(second, api.Point{Time: int64(i), Value: values[len(values)-1-i]})
	}
	one, two := []api.Column{{Series: "s", Field: "f", Points: first}}, []api.Column{{Series: "s", Field: "f", Points: second}}
	checkMerge(t, one, one)
	checkMerge(t, two, one, two)
	checkMerge(t, one, two, one)
	checkLists(t, one, two, one)
}

// TestMergeOfNothing: P14.1 and R4, where there are no lists, no columns or no points, there is nothing.
func TestMergeOfNothing(t *testing.T) {
	none := api.Column{Series: "s", Field: "f", Points: []api.Point{}}
	for _, lists := range [][][]api.Column{nil, {}, {nil}, {{}}, {nil, {}, nil}, {{{}}}, {{none}}, {{none}, {none, {}}, nil}, {{none, none}}} {
		checkMerge(t, nil, lists...)
	}
	c := column("s", "f", 1, 1, 2)
	for _, lists := range [][][]api.Column{{{c}}, {nil, {c}}, {{c}, {}}, {{none}, {c}}, {{c}, {none}}, {{none}, {c}, {{}, none}}, {{{Series: "s"}, c, {Field: "f"}}}} {
		checkMerge(t, []api.Column{c}, lists...)
	}
}

// TestAnything: P14.1, held against a plain reading of the document.
func TestAnything(t *testing.T) {
	random := rand.New(rand.NewSource(2))
	for range 10000 {
		checkLists(t, someLists(random, 5, 6, 8)...)
	}
	for range 200 {
		checkLists(t, someLists(random, 12, 60, 60)...)
	}
}

func FuzzMerge(f *testing.F) {
	f.Add(int64(1), uint8(3), uint8(3), uint8(3))
	f.Fuzz(func(t *testing.T, seed int64, lists, columns, points uint8) {
		random := rand.New(rand.NewSource(seed))
		checkLists(t, someLists(random, int(lists%16), int(columns), int(points))...)
	})
}

// TestMany: P14.1, many lists, columns and points are merged soon, in whatever order they stand.
func TestMany(t *testing.T) {
	const many = 1 << 17
	falling := make([]int64, many)
	for i := range falling {
		falling[i] = int64(many - i)
	}
	rising := slices.Clone(falling)
	slices.Reverse(rising)
	mixed := slices.Clone(rising)
	random := rand.New(rand.NewSource(3))
	random.Shuffle(many, func(i, j int) { mixed[i], mixed[j] = mixed[j], mixed[i] })
	for _, times := range [][]int64{rising, falling, mixed, make([]int64, many)} {
		c := column("s", "f", 1, times...)
		checkMerge(t, merged([]api.Column{c}), []api.Column{c})
		var lists, alike [][]api.Column
		var columns, same []api.Column
		for i, at := range times {
			columns = append(columns, column("cpu,host="+strconv.FormatInt(at, 10), "f", i, at))
			same = append(same, column("s", "f", i, at))
			lists = append(lists, columns[i:i+1])
			alike = append(alike, same[i:i+1])
		}
		checkMerge(t, merged(columns), columns)
		checkMerge(t, merged(same), same)
		checkMerge(t, merged(lists...), lists...)
		checkMerge(t, merged(alike...), alike...)
	}
}

// TestIntoFiles: P14.1, what is merged of files' columns has a file's bytes again.
func TestIntoFiles(t *testing.T) {
	var lists [][]api.Column
	for i := range 5 {
		list := []api.Column{column("a", "f", i, int64(i), int64(i+1), 9), column("b,t=x", "g", i, int64(10-i))}
		b, e := file.Encode(list[i%2:])
		if e != api.OK {
			t.Fatal(e)
		}
		read, e := file.Decode(b)
		if e != api.OK {
			t.Fatal(e)
		}
		lists = append(lists, read)
	}
	got := merge.Merge(lists...)
	b, e := file.Encode(got)
	if e != api.OK {
		t.Fatal(e, short(got))
	}
	if back, e := file.Decode(b); e != api.OK || !sameColumns(back, got) {
		t.Error(e, short(back))
	}
	checkLists(t, lists...)
}

// TestArgumentsStay: R3, what is handed in isn't changed, nor its spare room, and no answer hangs on it later.
func TestArgumentsStay(t *testing.T) {
	random := rand.New(rand.NewSource(4))
	for range 1000 {
		plain := someLists(random, 4, 6, 8)
		want := merged(plain...)
		lists := roomyLists(plain)
		got := merge.Merge(lists...)
		checkRoom(t, lists, plain)
		for _, list := range lists {
			for _, c := range list {
				clear(c.Points)
			}
			clear(list)
		}
		clear(lists)
		if !sameColumns(got, want) {
			t.Fatalf("the answer is %s now, not %s", short(got), short(want))
		}
	}
}

// What stands in spare room.
var (
	roomPoint  = api.Point{Time: 7, Value: api.Value{Kind: api.Integer, Bits: 7}}
	roomColumn = api.Column{Series: "room", Field: "room", Points: []api.Point{roomPoint}}
)

// roomy is the list, with room for two more behind it, in which room stands.
func roomy[E any](list []E, room E) []E {
	return append(slices.Clone(list), room, room)[:len(list)]
}

// roomyLists is the lists in new memory, each list of which has such room.
func roomyLists(plain [][]api.Column) [][]api.Column {
	lists := roomy(plain, []api.Column{roomColumn})
	for i := range lists {
		lists[i] = roomy(lists[i], roomColumn)
		for j := range lists[i] {
			lists[i][j].Points = roomy(lists[i][j].Points, roomPoint)
		}
	}
	return lists
}

// checkRoom: the lists are the plain ones, with their room as roomyLists left it.
func checkRoom(t *testing.T, lists, plain [][]api.Column) {
	t.Helper()
	for _, list := range lists {
		if room := list[len(list) : len(list)+2]; !sameColumns(room, []api.Column{roomColumn, roomColumn}) {
			t.Fatalf("the room behind the columns is %s now", short(room))
		}
		for _, c := range list {
			if room := c.Points[len(c.Points) : len(c.Points)+2]; room[0] != roomPoint || room[1] != roomPoint {
				t.Fatalf("the room behind the points is %v now", room)
			}
		}
	}
	room := []api.Column{roomColumn}
	if all := append(slices.Clone(plain), room, room); !slices.EqualFunc(lists[:len(lists)+2], all, sameColumns) {
		t.Fatalf("the lists are %s now, not %s", shortLists(lists[:len(lists)+2]), shortLists(all))
	}
}

// TestAnswersAreNew: R2, R3, each answer, and each list of it, has its own memory, its spare room too, and no call leaves a mark for the next one.
func TestAnswersAreNew(t *testing.T) {
	c := column("s", "f", 1, 1, 2, 3)
	shared := api.Column{Series: "s", Field: "g", Points: c.Points}
	for _, lists := range [][][]api.Column{
		{{c}}, {{c, shared}}, {{c, shared}, {c, shared}}, {{c}, {shared}, {column("a", "f", 2, 3, 2, 1), column("s", "f", 3, 9, 2)}}, {{c, column("z", "f", 4, 1, 1, 1), shared}},
	} {
		want := merged(lists...)
		one, other := merge.Merge(lists...), merge.Merge(lists...)
		for i, c := range one {
			clear(c.Points[:cap(c.Points)])
			if !sameColumns(one[i+1:], want[i+1:]) {
				t.Errorf("two columns of %s share memory", short(want))
			}
		}
		clear(one[:cap(one)])
		if !sameColumns(other, want) {
			t.Errorf("two answers share memory: %s", short(other))
		}
		checkLists(t, lists...)
	}
}
