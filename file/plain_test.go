package file_test

import (
	"bytes"
	"encoding/binary"
	"fmt"
	"hash/crc32"
	"math"
	"slices"
	"strings"
	"testing"

	"grist/api"
	"grist/block"
	"grist/file"
)

const (
	least = math.MinInt64
	most  = math.MaxInt64
)

var kinds = []int{api.Float, api.Integer, api.Boolean, api.String}

// place is what an index says of a block.
type place struct {
	first, last int64
	begin, size uint32
}

// entry is what an index says of a column.
type entry struct {
	series, field string
	count         uint32 // of blocks, as it is said
	places        []place
}

func plainValue(v api.Value) bool {
	f := math.Float64frombits(v.Bits)
	switch v.Kind {
	case api.Float:
		return v.Text == "" && f-f == 0
	case api.Integer:
		return v.Text == ""
	case api.Boolean:
		return v.Text == "" && (v.Bits == 0 || v.Bits == 1)
	}
	return v.Kind == api.String && v.Bits == 0 && len(v.Text) < 65537
}

// plainFormed is whether a list is formed, as the document tells it.
func plainFormed(list []api.Column) bool {
	for i, c := range list {
		if i > 0 && (c.Series < list[i-1].Series || c.Series == list[i-1].Series && c.Field <= list[i-1].Field) {
			return false
		}
		if len(c.Series) > 4000 || len(c.Field) > 4000 || len(c.Points) == 0 || len(c.Points) > 1e6 {
			return false
		}
		for j, p := range c.Points {
			if !plainValue(p.Value) || p.Value.Kind != c.Points[0].Value.Kind || j > 0 && p.Time <= c.Points[j-1].Time {
				return false
			}
		}
	}
	return len(list) <= 1048576
}

// blocksOf are the blocks of points, and what an index says of them, if they begin there.
func blocksOf(points []api.Point, begin int) (body []byte, places []place, e api.Errno) {
	for i := 0; i < len(points); i += 1000 {
		part := points[i:min(i+1000, len(points))]
		b, e := block.Encode(part)
		if e != api.OK {
			return nil, nil, e
		}
		places = append(places, place{part[0].Time, part[len(part)-1].Time, uint32(begin + len(body)), uint32(len(b))})
		body = append(body, b...)
	}
	return body, places, api.OK
}

// indexOf are the bytes of an index that says this.
func indexOf(entries ...entry) []byte {
	var b []byte
	for _, x := range entries {
		b = binary.BigEndian.AppendUint16(b, uint16(len(x.series)))
		b = append(b, x.series...)
		b = binary.BigEndian.AppendUint16(b, uint16(len(x.field)))
		b = append(b, x.field...)
		b = binary.BigEndian.AppendUint32(b, x.count)
		for _, p := range x.places {
			b = binary.BigEndian.AppendUint64(b, uint64(p.first))
			b = binary.BigEndian.AppendUint64(b, uint64(p.last))
			b = binary.BigEndian.AppendUint32(b, p.begin)
			b = binary.BigEndian.AppendUint32(b, p.size)
		}
	}
	return b
}

// fileOf is a file of these parts, whatever they are, with the right end.
func fileOf(body, index []byte) []byte {
	b := slices.Concat([]byte("GRST1"), body, index)
	b = binary.BigEndian.AppendUint32(b, uint32(5+len(body)))
	return binary.BigEndian.AppendUint32(b, crc32.ChecksumIEEE(index))
}

// partsOf are the blocks of a list of columns that each can be laid down, and what the index says of them.
func partsOf(list []api.Column) (body []byte, entries []entry, e api.Errno) {
	for _, c := range list {
		more, places, e := blocksOf(c.Points, 5+len(body))
		if e != api.OK {
			return nil, nil, e
		}
		body = append(body, more...)
		entries = append(entries, entry{c.Series, c.Field, uint32(len(places)), places})
	}
	return body, entries, api.OK
}

// encoded is the answer of Encode, as the document tells it, of a list that isn't too long.
func encoded(list []api.Column) ([]byte, api.Errno) {
	if !plainFormed(list) {
		return nil, api.ErrArg
	}
	body, entries, e := partsOf(list)
	if e != api.OK {
		return nil, e
	}
	return fileOf(body, indexOf(entries...)), api.OK
}

// must is the bytes of a list that has some.
func must(t *testing.T, list []api.Column) []byte {
	t.Helper()
	b, e := encoded(list)
	if e != api.OK {
		t.Fatalf("%s has no bytes: %v", short(list), e)
	}
	return b
}

// cut is a list of bytes that are taken from the front; it has none left, and lacks some, when too many were asked for.
type cut struct {
	left  []byte
	lacks bool
}

func (c *cut) take(n uint64) []byte {
	if n > uint64(len(c.left)) {
		*c = cut{lacks: true}
		return nil
	}
	b := c.left[:n]
	c.left = c.left[n:]
	return b
}

func (c *cut) number(bytes uint64) uint64 {
	var n uint64
	for _, digit := range c.take(bytes) {
		n = n*256 + uint64(digit)
	}
	return n
}

// told are the columns that b says, wherever it has their blocks, whatever else it has.
func told(b []byte) []api.Column {
	if len(b) < 13 {
		return nil
	}
	begin := (&cut{left: b[len(b)-8:]}).number(4)
	if begin > uint64(len(b)-8) {
		return nil
	}
	index := &cut{left: b[begin : len(b)-8]}
	var list []api.Column
	for len(index.left) > 0 {
		c := api.Column{Series: string(index.take(index.number(2))), Field: string(index.take(index.number(2)))}
		for n := index.number(4); n > 0 && !index.lacks; n-- {
			index.take(16)
			at, size := index.number(4), index.number(4)
			if at+size > uint64(len(b)) {
				return nil
			}
			points, _ := block.Decode(b[at : at+size])
			c.Points = append(c.Points, points...)
		}
		list = append(list, c)
	}
	return list
}

// short is some bytes, points or columns in few words, however many they are.
func short(some any) string {
	var text string
	switch list := some.(type) {
	case []byte:
		text = fmt.Sprintf("%d bytes, %x", len(list), list[:min(len(list), 100)])
	case []api.Point:
		text = fmt.Sprintf("%d points, %v", len(list), list[:min(len(list), 10)])
	case []api.Column:
		text = fmt.Sprintf("%d columns", len(list))
		for _, c := range list[:min(len(list), 10)] {
			text += fmt.Sprintf(", %.20q %.20q: %s", c.Series, c.Field, short(c.Points))
		}
	}
	if len(text) > 400 {
		text = text[:400] + " and so on"
	}
	return text
}

func sameColumns(a, b []api.Column) bool {
	return slices.EqualFunc(a, b, func(x, y api.Column) bool {
		return x.Series == y.Series && x.Field == y.Field && slices.Equal(x.Points, y.Points)
	})
}

func checkEncode(t *testing.T, list []api.Column, want []byte) {
	t.Helper()
	b, e := file.Encode(list)
	if e != api.OK || !bytes.Equal(b, want) {
		t.Fatalf("Encode(%s): %s, %v, not %s", short(list), short(b), e, short(want))
	}
}

// checkRefused: such a list has no bytes.
func checkRefused(t *testing.T, list []api.Column, want api.Errno) {
	t.Helper()
	if b, e := file.Encode(list); e != want || len(b) != 0 {
		t.Fatalf("Encode(%s): %s, %v, not %v", short(list), short(b), e, want)
	}
}

// checkDecode holds Decode of bytes of a list.
func checkDecode(t *testing.T, b []byte, want []api.Column) {
	t.Helper()
	list, e := file.Decode(b)
	if e != api.OK || !sameColumns(list, want) {
		t.Fatalf("Decode(%s): %s, %v, not %s", short(b), short(list), e, short(want))
	}
}

// checkFind holds Find in bytes of a list.
func checkFind(t *testing.T, b []byte, list []api.Column, series, field string, from, to int64) {
	t.Helper()
	var want []api.Point
	for _, c := range list {
		for _, p := range c.Points {
			if c.Series == series && c.Field == field && from <= p.Time && p.Time <= to {
				want = append(want, p)
			}
		}
	}
	points, e := file.Find(b, series, field, from, to)
	if e != api.OK || !slices.Equal(points, want) {
		t.Fatalf("Find(%s, %q, %q, %d, %d): %s, %v, not %s", short(b), series, field, from, to, short(points), e, short(want))
	}
}

// checkNone: b is not the bytes of any list, whatever is looked for.
func checkNone(t *testing.T, b []byte) {
	t.Helper()
	if list, e := file.Decode(b); e != api.ErrForm || len(list) != 0 {
		t.Fatalf("Decode(%s): %s, %v, not ErrForm", short(b), short(list), e)
	}
	// What it says of its first column is the likeliest to be found.
	for _, c := range append(told(b), api.Column{})[:1] {
		if points, e := file.Find(b, c.Series, c.Field, least, most); e != api.ErrForm || len(points) != 0 {
			t.Fatalf("Find(%s, %q, %q): %s, %v, not ErrForm", short(b), c.Series, c.Field, short(points), e)
		}
	}
}

// checkBoth: the list has these bytes, and back.
func checkBoth(t *testing.T, list []api.Column, want []byte) {
	t.Helper()
	checkEncode(t, list, want)
	checkDecode(t, want, list)
	for _, c := range list[:min(3, len(list))] {
		checkFind(t, want, list, c.Series, c.Field, c.Points[0].Time, c.Points[len(c.Points)/2].Time)
	}
}

// checkList holds Encode, and Decode of what it made, of whatever list against the document's words of it.
func checkList(t *testing.T, list []api.Column) {
	t.Helper()
	if want, e := encoded(list); e == api.OK {
		checkBoth(t, list, want)
	} else {
		checkRefused(t, list, e)
	}
}

// checkBytes: whatever comes is the bytes of a list, or ErrForm.
func checkBytes(t *testing.T, b []byte) {
	t.Helper()
	before := bytes.Clone(b)
	list := told(b)
	if own, e := encoded(list); e == api.OK && bytes.Equal(own, b) {
		checkBoth(t, list, b)
	} else {
		checkNone(t, b)
	}
	if !bytes.Equal(b, before) {
		t.Fatalf("Decode(%s) made %s of it", short(before), short(b))
	}
}

// points are values of one Kind, from a first time on by these distances, which come again and again.
func points(values []api.Value, first int64, by ...int64) []api.Point {
	var list []api.Point
	for i, v := range values {
		list = append(list, api.Point{Time: first, Value: v})
		first += by[i%len(by)]
	}
	return list
}

func values(kind int, numbers ...uint64) []api.Value {
	var list []api.Value
	for _, n := range numbers {
		list = append(list, api.Value{Kind: kind, Bits: n})
	}
	return list
}

func texts(list ...string) []api.Value {
	var all []api.Value
	for _, text := range list {
		all = append(all, api.Value{Kind: api.String, Text: text})
	}
	return all
}

func floatBits(numbers ...float64) []uint64 {
	var list []uint64
	for _, n := range numbers {
		list = append(list, math.Float64bits(n))
	}
	return list
}

// many are n values of that Kind, unlike each other as far as it lets them be.
func many(kind, n int) []api.Value {
	var list []api.Value
	for i := range n {
		switch kind {
		case api.Float:
			list = append(list, values(kind, floatBits(float64(i)/10)...)...)
		case api.Integer:
			list = append(list, values(kind, uint64(i*i))...)
		case api.Boolean:
			list = append(list, values(kind, uint64(i/3%2))...)
		default:
			list = append(list, texts(fmt.Sprint("text ", i))...)
		}
	}
	return list
}

func column(series, field string, points []api.Point) api.Column {
	return api.Column{Series: series, Field: field, Points: points}
}

// one is a column of one point.
func one(series, field string) api.Column {
	return column(series, field, points(values(api.Boolean, 1), 5, 1))
}

// someLists are lists of all Kinds, with few columns and many blocks, and many columns and few blocks.
func someLists() [][]api.Column {
	negative := math.Copysign(0, -1)
	small := []api.Column{
		column("", "", points(texts("abc", "", "\x00\xff\n"), least, 1<<62, 5)),
		column("", "\x00", points(values(api.Integer, 5), most, 1)),
		column("cpu,host=a", "busy", points(values(api.Float, floatBits(0, negative, 0.1, -math.MaxFloat64, 5e-324)...), -7, 10)),
		column("cpu,host=a", "on", points(values(api.Boolean, 1, 0, 1), 5, 1, 3)),
		column("cpu,host=b", "busy", points(values(api.Integer, 1<<63, 1<<63-1, 0), least, 1<<59, 1, 2)),
		column("cpu,host=b", "\xff", points(texts(strings.Repeat("x", 300)), 0, 1)),
		column("mem", "a", points(slices.Repeat(values(api.Integer, 7), 30), -15, 1)),
	}
	return [][]api.Column{
		nil, small[:1], small[3:4], small[2:5], small,
		{column("s", "f", points(many(api.Integer, 1001), -500, 1))},
		{one("a", "z"), column("b", "a", points(many(api.Float, 2000), least, 1<<50, 1)), one("b", "b")},
		{column("a", "f", points(many(api.String, 1002), 0, 2)), column("b", "f", points(many(api.Boolean, 2500), 0, 1, 2)), one("c", "")},
	}
}

// unformed are values that aren't formed.
func unformed() []api.Value {
	return []api.Value{
		{}, {Kind: 5}, {Kind: -1}, {Kind: 256 + api.Boolean}, {Kind: 9, Text: "a"}, {Kind: math.MaxInt}, {Kind: math.MinInt},
		{Kind: api.Float, Bits: math.Float64bits(math.NaN())}, {Kind: api.Float, Bits: math.Float64bits(math.Inf(-1))}, {Kind: api.Float, Text: "a"},
		{Kind: api.Integer, Bits: 1, Text: "1"}, {Kind: api.Boolean, Bits: 2}, {Kind: api.Boolean, Bits: 1, Text: "t"}, {Kind: api.String, Bits: 1}, {Kind: api.String, Text: strings.Repeat("a", 65537)},
	}
}
