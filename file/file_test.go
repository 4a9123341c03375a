package file_test

import (
	"bytes"
	"encoding/hex"
	"math"
	"math/rand"
	"slices"
	"strings"
	"testing"

	"grist/api"
	"grist/file"
)

// TestExamples: the document's own, and two more whose bytes are written out.
func TestExamples(t *testing.T) {
	minus := column("", "ab", points(values(api.Integer, 5), -1, 1))
	two := column("s", "", points(values(api.Boolean, 1, 0), 5, 10))
	for _, c := range []struct {
		list []api.Column
		want []string
	}{
		{nil, []string{"00000005", "00000000"}},
		{[]api.Column{}, []string{"00000005", "00000000"}},
		{[]api.Column{one("s", "f")}, []string{
			"030000000b" + "0000010000000000000005" + "80" + "02b109c1",
			"000173" + "000166" + "00000001" + "0000000000000005" + "0000000000000005" + "00000005" + "00000015",
			"0000001a", "5fcdbfa2",
		}},
		{[]api.Column{minus, two}, []string{
			"020000000b" + "000001ffffffffffffffff" + "01300000000000000a" + "7cef0cb9",
			"0300000013" + "0100020000000000000005000000000000000a" + "80" + "7d15d8f8",
			"0000" + "00026162" + "00000001" + "ffffffffffffffff" + "ffffffffffffffff" + "00000005" + "0000001d",
			"000173" + "0000" + "00000001" + "0000000000000005" + "000000000000000f" + "00000022" + "0000001d",
			"0000003f", "c238acd9",
		}},
	} {
		want, err := hex.DecodeString(strings.Join(c.want, ""))
		if err != nil {
			t.Fatal(err)
		}
		checkBoth(t, c.list, append([]byte("GRST1"), want...))
	}
}

// TestEachCount: P12.1, P12.3, a block has MostBlock points, the last one what is left.
func TestEachCount(t *testing.T) {
	for _, kind := range kinds {
		for _, n := range []int{1, 2, 3, 10, 500, 999, 1000, 1001, 1002, 1999, 2000, 2001, 3000, 5500} {
			all := many(kind, n)
			checkList(t, []api.Column{column("s", "f", points(all, int64(-n), 10))})
			checkList(t, []api.Column{one("r", "z"), column("s", "f", points(all, least, 1, 2, 9)), column("s", "g", points(all, 0, 1<<50))})
		}
	}
}

// TestEachBlock: how many blocks there are, and what the index says of them, read from the bytes themselves.
func TestEachBlock(t *testing.T) {
	b, e := file.Encode([]api.Column{column("s", "f", points(many(api.Integer, 2345), 100, 2))})
	if e != api.OK {
		t.Fatal(e)
	}
	index := &cut{left: b[len(b)-8-3*24-10 : len(b)-8]}
	if string(index.take(6)) != "\x00\x01s\x00\x01f" || index.number(4) != 3 {
		t.Fatalf("%x", b)
	}
	at := uint64(5)
	for _, want := range [][2]uint64{{100, 2098}, {2100, 4098}, {4100, 4788}} {
		if first, last := index.number(8), index.number(8); first != want[0] || last != want[1] {
			t.Errorf("a block from %d to %d, not %d", first, last, want)
		}
		if begin := index.number(4); begin != at {
			t.Errorf("a block begins at %d, not %d", begin, at)
		}
		at += index.number(4)
	}
	if end := &(cut{left: b[len(b)-8:]}); end.number(4) != at {
		t.Errorf("the index doesn't begin at %d", at)
	}
}

// TestNames: P12.1, a series and a field have at most 4000 bytes, whatever bytes these are.
func TestNames(t *testing.T) {
	for _, text := range []string{"", "\x00", "\xff\xfe", "a\nb", strings.Repeat("x", 255), strings.Repeat("x", 256), strings.Repeat("\xff", 3999), strings.Repeat("y", 4000)} {
		checkBoth(t, []api.Column{one(text, "f")}, must(t, []api.Column{one(text, "f")}))
		checkBoth(t, []api.Column{one("s", text)}, must(t, []api.Column{one("s", text)}))
		checkBoth(t, []api.Column{one(text, text)}, must(t, []api.Column{one(text, text)}))
	}
	for _, n := range []int{4001, 4002, 5000, 65535, 65536, 65537, 1 << 20} {
		text := strings.Repeat("z", n)
		for _, wrong := range []api.Column{one(text, "f"), one("s", text), one(text, text)} {
			checkRefused(t, []api.Column{wrong}, api.ErrArg)
			checkRefused(t, []api.Column{one("a", "a"), one("b", "b"), wrong}, api.ErrArg)
			checkRefused(t, []api.Column{wrong, one("zz", "b")}, api.ErrArg)
		}
	}
}

// TestOrderOfColumns: P12.1, by Series ahead of Field, byte by byte.
func TestOrderOfColumns(t *testing.T) {
	rising := []api.Column{
		one("", ""), one("", "\x00"), one("", "a"), one("A", ""), one("Z", "z"), one("a", ""), one("a", "b"), one("a", "b\x00"), one("a", "ba"), one("a", "c"),
		one("a,t=1", "a"), one("aa", ""), one("ab", "a"), one("b", "a"), one("z", "a"), one("\x7f", "\x7f"), one("\x7f", "\x80"), one("é", "a"), one("\xff", ""), one("\xff", "\xff"),
	}
	checkBoth(t, rising, must(t, rising))
	for i, a := range rising {
		for j, b := range rising {
			list := []api.Column{a, b}
			if i < j {
				checkBoth(t, list, must(t, list))
			} else {
				checkRefused(t, list, api.ErrArg)
				checkRefused(t, slices.Concat([]api.Column{a}, list), api.ErrArg)
			}
		}
	}
	for i := range len(rising) - 1 {
		list := slices.Clone(rising)
		list[i], list[i+1] = list[i+1], list[i]
		checkRefused(t, list, api.ErrArg)
		checkRefused(t, slices.Insert(slices.Clone(rising), i, rising[i]), api.ErrArg)
	}
}

// beside are lists that have a column in the first, the last, or a middle place.
func beside(c api.Column) [][]api.Column {
	return [][]api.Column{{c}, {c, one("z", "z")}, {one("a", "a"), c}, {one("a", "a"), c, one("z", "z")}}
}

// TestEncodeRefuses: P12.1, points that a column can't have, wherever they stand.
func TestEncodeRefuses(t *testing.T) {
	for _, list := range slices.Concat(beside(column("s", "f", nil)), beside(column("s", "f", []api.Point{}))) {
		checkRefused(t, list, api.ErrArg)
	}
	for _, kind := range kinds {
		all := many(kind, 2003)
		for _, at := range []int{0, 1, 500, 999, 1000, 1001, 1999, 2000, 2002} {
			for _, v := range unformed() {
				wrong := points(all, 0, 10)
				wrong[at].Value = v
				for _, list := range beside(column("s", "f", wrong)) {
					checkRefused(t, list, api.ErrArg)
				}
				checkRefused(t, []api.Column{column("s", "f", wrong[at:at+1])}, api.ErrArg)
			}
			for _, other := range kinds {
				wrong := points(all, 0, 10)
				wrong[at].Value = values(other, 0)[0]
				checkList(t, []api.Column{column("s", "f", wrong)})
				if other != kind {
					checkRefused(t, []api.Column{column("s", "f", wrong)}, api.ErrArg)
				}
			}
			for _, less := range []int64{10, 11, 1 << 40} {
				wrong := points(all, 0, 10)
				wrong[max(at, 1)].Time -= less
				for _, list := range beside(column("s", "f", wrong)) {
					checkRefused(t, list, api.ErrArg)
				}
			}
		}
	}
}

// TestKinds: a block that is of one Kind within isn't enough, the whole column is.
func TestKinds(t *testing.T) {
	for _, kind := range kinds {
		for _, other := range kinds {
			mixed := points(slices.Concat(many(kind, 1000), many(other, 7)), 0, 1)
			checkList(t, []api.Column{column("s", "f", mixed)})
			if kind != other {
				checkRefused(t, []api.Column{column("s", "f", mixed)}, api.ErrArg)
			}
			// Other columns have Kinds of their own.
			checkList(t, []api.Column{column("s", "f", mixed[:1000]), column("s", "g", mixed[1000:])})
		}
	}
}

// TestTooLongBlocks: P12.1, strings of 2^22 bytes with their lengths are taken in each block, one more is too many.
func TestTooLongBlocks(t *testing.T) {
	t.Parallel()
	full := slices.Repeat(texts(strings.Repeat("a", 4192)), 999)
	full = append(full, texts(strings.Repeat("a", 1<<22-999*4194-2))...)
	b := append(slices.Clone(full), full...)
	checkList(t, []api.Column{column("s", "f", points(b, 0, 1))})
	for _, at := range []int{0, 999, 1000, 1999} {
		wrong := points(b, 0, 1)
		wrong[at].Value.Text += "a"
		for _, list := range beside(column("s", "f", wrong)) {
			checkRefused(t, list, api.ErrLong)
		}
	}
	checkList(t, []api.Column{column("s", "f", points(append(full[:999:999], texts("")...), 0, 1))})
	checkRefused(t, []api.Column{column("s", "f", points(slices.Repeat(texts(strings.Repeat("a", 65536)), 64), 0, 1))}, api.ErrLong)
}

// TestOrderOfErrors: ErrArg is asked of all the list ahead of ErrLong.
func TestOrderOfErrors(t *testing.T) {
	long := column("s", "f", points(slices.Repeat(texts(strings.Repeat("a", 65536)), 100), 0, 1))
	checkRefused(t, []api.Column{long}, api.ErrLong)
	checkRefused(t, []api.Column{long, one("t", "f")}, api.ErrLong)
	for _, wrong := range []api.Column{column("t", "f", nil), one("a", "a"), one("t", strings.Repeat("a", 4001)), column("t", "f", points(make([]api.Value, 1), 0, 1))} {
		checkRefused(t, []api.Column{long, wrong}, api.ErrArg)
	}
	ill := long
	ill.Points = append(slices.Clone(long.Points), api.Point{Time: 100, Value: api.Value{Kind: api.Integer}})
	checkRefused(t, []api.Column{ill}, api.ErrArg)
	ill.Points = append(slices.Clone(long.Points), api.Point{Time: 99, Value: texts("")[0]})
	checkRefused(t, []api.Column{ill}, api.ErrArg)
}

// TestFind: P12.2, both bounds are in, across blocks and at the edges of what a time is.
func TestFind(t *testing.T) {
	t.Parallel()
	list := []api.Column{
		column("", "", points(many(api.Float, 4), -3, 1)),
		column("s", "f", points(many(api.Integer, 2500), -1000, 2)),
		column("s", "g", []api.Point{{Time: least, Value: texts("a")[0]}, {Time: 0, Value: texts("")[0]}, {Time: most, Value: texts("c")[0]}}),
		column("t", "f", points(many(api.Boolean, 1000), 0, 1)),
	}
	b := must(t, list)
	bounds := []int64{least, least + 1, -1001, -1000, -999, -998, -1, 0, 1, 997, 998, 999, 1000, 1001, 2998, 2999, 3000, 3997, 3998, 3999, most - 1, most}
	for _, c := range list {
		for _, from := range bounds {
			for _, to := range bounds {
				checkFind(t, b, list, c.Series, c.Field, from, to)
			}
		}
	}
	for _, p := range slices.Concat(list[1].Points[:3], list[1].Points[990:1010], list[1].Points[1997:2003], list[1].Points[2497:]) {
		checkFind(t, b, list, "s", "f", p.Time, p.Time)
		checkFind(t, b, list, "s", "f", p.Time+1, p.Time+1)
	}
	points, e := file.Find(b, "s", "g", least, most)
	if e != api.OK || len(points) != 3 || points[2].Value.Text != "c" {
		t.Error(points, e)
	}
}

// TestFindOfNoColumn: P12.2, none is found where there is none of just these texts.
func TestFindOfNoColumn(t *testing.T) {
	list := []api.Column{one("a", "bc"), one("ab", "c"), one("b", "a"), one("b", "b")}
	b := must(t, list)
	for _, c := range [][2]string{
		{"", ""}, {"a", ""}, {"", "bc"}, {"a", "b"}, {"abc", ""}, {"", "abc"}, {"a", "c"}, {"ab", "bc"}, {"b", "bc"}, {"b", "c"}, {"A", "BC"}, {"a ", "bc"}, {"a", "bc\x00"},
		{"bc", "a"}, {"a\x00", "bc"}, {"z", "z"}, {strings.Repeat("a", 70000), "b"}, {"a", strings.Repeat("b", 70000)},
	} {
		checkFind(t, b, list, c[0], c[1], least, most)
		checkFind(t, must(t, nil), nil, c[0], c[1], least, most)
		if points, e := file.Find(b, c[0], c[1], 0, 9); len(points) != 0 || e != api.OK {
			t.Errorf("Find(%q): %v, %v", c, points, e)
		}
	}
	for _, c := range list {
		if points, e := file.Find(b, c.Series, c.Field, 0, 9); len(points) != 1 || e != api.OK {
			t.Errorf("Find(%q, %q): %v, %v", c.Series, c.Field, points, e)
		}
	}
}

// TestFindOfFaults: P12.2, a fault is one also in another column, in a block that isn't looked for, and where there is nothing to find.
func TestFindOfFaults(t *testing.T) {
	list := []api.Column{one("a", "f"), column("b", "f", points(many(api.Integer, 3000), 0, 1)), one("c", "f")}
	b := must(t, list)
	for _, at := range []int{0, 4, 10, 30, 2000, len(b) / 2, len(b) - 130, len(b) - 40, len(b) - 8, len(b) - 1} {
		changed := bytes.Clone(b)
		changed[at] ^= 1
		for _, series := range []string{"a", "b", "c", "d"} {
			for _, to := range []int64{5, -1, 1500, most} {
				if points, e := file.Find(changed, series, "f", 0, to); e != api.ErrForm || len(points) != 0 {
					t.Errorf("byte %d: Find(%q, to %d): %s, %v", at, series, to, short(points), e)
				}
			}
		}
	}
}

// someList is a list of columns, most often one that has bytes.
func someList(random *rand.Rand, mostColumns, mostPoints int) []api.Column {
	var list []api.Column
	for range random.Intn(mostColumns) {
		kind := kinds[random.Intn(4)]
		far := 1 + random.Intn(50)
		at := int64(random.Uint64()) >> (1 + random.Intn(60))
		var all []api.Point
		for _, v := range many(kind, 1+random.Intn(mostPoints)) {
			all = append(all, api.Point{Time: at, Value: v})
			at += 1 + int64(random.Uint64()>>(63-far))
		}
		list = append(list, column([]string{"", "a", "b", "ab"}[random.Intn(4)], []string{"", "x", "xy", "\xff"}[random.Intn(4)], all))
	}
	slices.SortFunc(list, func(a, b api.Column) int { return strings.Compare(a.Series+"\x00"+a.Field, b.Series+"\x00"+b.Field) })
	if len(list) > 0 && random.Intn(10) == 0 {
		c := list[random.Intn(len(list))]
		c.Points[random.Intn(len(c.Points))].Time -= int64(random.Intn(100))
	}
	return list
}

// TestThereAndBack: P12.3.
func TestThereAndBack(t *testing.T) {
	for _, list := range someLists() {
		checkBoth(t, list, must(t, list))
	}
	random := rand.New(rand.NewSource(1))
	for range 60 {
		checkList(t, someList(random, 4, 4000))
	}
	for range 10000 {
		checkList(t, someList(random, 6, 5))
	}
}

// TestArgumentsStay: R3, what is handed in isn't changed, nor its spare room, and no answer hangs on it later.
func TestArgumentsStay(t *testing.T) {
	for _, list := range someLists() {
		want := must(t, list)
		room := slices.Concat([]api.Column{{Series: "?"}}, list, make([]api.Column, 3))
		var before [][]api.Point
		for i, c := range room {
			room[i].Points = append(slices.Clone(c.Points), make([]api.Point, 3)...)[:len(c.Points)]
			before = append(before, slices.Clone(room[i].Points[:len(c.Points)+3]))
		}
		b, _ := file.Encode(room[1 : 1+len(list)])
		for i, c := range room {
			all := c.Points[:len(c.Points)+3]
			if !slices.Equal(all, before[i]) {
				t.Errorf("the points are %s now", short(all))
			}
			clear(all)
		}
		if !sameColumns(room[len(list)+1:], make([]api.Column, 3)) || room[0].Series != "?" {
			t.Errorf("the list is %s now", short(room))
		}
		if !bytes.Equal(b, want) {
			t.Errorf("the answer is %s now", short(b))
		}
		checkBytesStay(t, list, want)
	}
}

func checkBytesStay(t *testing.T, list []api.Column, b []byte) {
	t.Helper()
	room := slices.Concat([]byte{9, 9}, b, bytes.Repeat([]byte{9}, 50))
	before := bytes.Clone(room)
	got, _ := file.Decode(room[2 : 2+len(b)])
	var found [][]api.Point
	for _, c := range list {
		points, _ := file.Find(room[2:2+len(b)], c.Series, c.Field, least, most)
		found = append(found, points)
	}
	if !bytes.Equal(room, before) {
		t.Errorf("the bytes are %s now", short(room))
	}
	clear(room)
	if !sameColumns(got, list) {
		t.Errorf("the answer is %s now", short(got))
	}
	for i, c := range list {
		if !slices.Equal(found[i], c.Points) {
			t.Errorf("what was found is %s now", short(found[i]))
		}
	}
}

// TestAnswersAreNew: R2, R3, each answer, and each list of it, has its own memory, its spare room too, and no call leaves a mark for the next one.
func TestAnswersAreNew(t *testing.T) {
	for _, list := range someLists() {
		want := must(t, list)
		first, _ := file.Encode(list)
		second, _ := file.Encode(list)
		all := first[:cap(first)]
		for i := range all {
			all[i] = 0xaa
		}
		if !bytes.Equal(second, want) {
			t.Errorf("two answers of %s share memory", short(list))
		}
		own, _ := file.Decode(want)
		others, _ := file.Decode(want)
		for i, c := range own {
			found, _ := file.Find(want, c.Series, c.Field, c.Points[0].Time, c.Points[len(c.Points)/2].Time)
			spoil(found)
			spoil(c.Points)
			if !sameColumns(own[i+1:], list[i+1:]) {
				t.Errorf("two columns of %s share memory", short(list))
			}
		}
		clear(own[:cap(own)])
		if !sameColumns(others, list) {
			t.Errorf("two answers of %s share memory", short(want))
		}
		checkBoth(t, list, want)
	}
}

// spoil writes over an answer, its spare room too: it is the asker's own.
func spoil(points []api.Point) {
	for i := range points[:cap(points)] {
		points[:cap(points)][i] = api.Point{Time: math.MaxInt64, Value: api.Value{Kind: 9, Text: "?"}}
	}
}
