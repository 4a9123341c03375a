package block_test

import (
	"bytes"
	"encoding/binary"
	"fmt"
	"hash/crc32"
	"math"
	"math/rand"
	"slices"
	"strings"
	"testing"

	"grist/api"
	"grist/block"
	"grist/column"
	"grist/stamp"
)

const (
	least = math.MinInt64
	most  = math.MaxInt64
)

var kinds = []int{api.Float, api.Integer, api.Boolean, api.String}

// sealed is a body with its sum behind it.
func sealed(body []byte) []byte {
	return binary.BigEndian.AppendUint32(bytes.Clone(body), crc32.ChecksumIEEE(body))
}

// blockOf is a block of these parts, whatever they are, with the right sum.
func blockOf(kind byte, size uint32, times, values []byte) []byte {
	body := binary.BigEndian.AppendUint32([]byte{kind}, size)
	return sealed(slices.Concat(body, times, values))
}

// laid are the bytes of the times, and those of the values, and which errors these have.
func laid(points []api.Point) (times, values []byte, ofTimes, ofValues api.Errno) {
	var timeList []int64
	var valueList []api.Value
	for _, p := range points {
		timeList = append(timeList, p.Time)
		valueList = append(valueList, p.Value)
	}
	times, ofTimes = stamp.Encode(timeList)
	values, ofValues = column.Encode(valueList)
	return times, values, ofTimes, ofValues
}

// encoded is the answer of Encode, as the document tells it.
func encoded(points []api.Point) ([]byte, api.Errno) {
	times, values, ofTimes, ofValues := laid(points)
	if ofTimes != api.OK {
		return nil, ofTimes
	}
	if ofValues != api.OK {
		return nil, ofValues
	}
	return blockOf(byte(points[0].Value.Kind), uint32(len(times)), times, values), api.OK
}

// told are the points that b says, were its sum right.
func told(b []byte) []api.Point {
	if len(b) < 9 {
		return nil
	}
	size, rest := int64(binary.BigEndian.Uint32(b[1:])), b[5:len(b)-4]
	if size > int64(len(rest)) {
		return nil
	}
	times, _ := stamp.Decode(rest[:size])
	values, _ := column.Decode(int(b[0]), len(times), rest[size:])
	var list []api.Point
	for i := range values {
		list = append(list, api.Point{Time: times[i], Value: values[i]})
	}
	return list
}

// points are values of one Kind, from a first time on by these distances, which come again and again.
func points(values []api.Value, first int64, by ...int64) []api.Point {
	var list []api.Point
	for i, v := range values {
		list = append(list, api.Point{Time: first, Value: v})
		first += by[i%len(by)]
	}
	return list
}

func values(kind int, numbers ...uint64) []api.Value {
	var list []api.Value
	for _, n := range numbers {
		list = append(list, api.Value{Kind: kind, Bits: n})
	}
	return list
}

func texts(list ...string) []api.Value {
	var all []api.Value
	for _, text := range list {
		all = append(all, api.Value{Kind: api.String, Text: text})
	}
	return all
}

// short is some points or bytes in few words, however many they are.
func short(some any) string {
	text := fmt.Sprintf("%x", some)
	if len(text) > 300 {
		text = text[:300] + " and so on"
	}
	return text
}

func checkEncode(t *testing.T, list []api.Point, want []byte) {
	t.Helper()
	b, e := block.Encode(list)
	if e != api.OK || !bytes.Equal(b, want) {
		t.Fatalf("Encode(%s): %s, %v, not %s", short(list), short(b), e, short(want))
	}
}

// checkRefused: such points have no bytes.
func checkRefused(t *testing.T, list []api.Point, want api.Errno) {
	t.Helper()
	if b, e := block.Encode(list); e != want || len(b) != 0 {
		t.Fatalf("Encode(%s): %s, %v, not %v", short(list), short(b), e, want)
	}
}

// checkDecode holds Decode, and with it Span, of bytes of points.
func checkDecode(t *testing.T, b []byte, want []api.Point) {
	t.Helper()
	list, e := block.Decode(b)
	if e != api.OK || !slices.Equal(list, want) {
		t.Fatalf("Decode(%s): %s, %v, not %s", short(b), short(list), e, short(want))
	}
	from, to, n, e := block.Span(b)
	if from != want[0].Time || to != want[len(want)-1].Time || n != len(want) || e != api.OK {
		t.Fatalf("Span(%s): %d, %d, %d, %v, not that of %s", short(b), from, to, n, e, short(want))
	}
}

// checkNone: b is not the bytes of any points.
func checkNone(t *testing.T, b []byte) {
	t.Helper()
	if list, e := block.Decode(b); e != api.ErrForm || len(list) != 0 {
		t.Fatalf("Decode(%s): %s, %v, not ErrForm", short(b), short(list), e)
	}
	if from, to, n, e := block.Span(b); from != 0 || to != 0 || n != 0 || e != api.ErrForm {
		t.Fatalf("Span(%s): %d, %d, %d, %v, not ErrForm", short(b), from, to, n, e)
	}
}

// checkBoth: the points have these bytes, and back.
func checkBoth(t *testing.T, list []api.Point, want []byte) {
	t.Helper()
	checkEncode(t, list, want)
	checkDecode(t, want, list)
}

// checkPoints holds Encode, and Decode of what it made, of whatever points against the document's words of them.
func checkPoints(t *testing.T, list []api.Point) {
	t.Helper()
	before := slices.Clone(list)
	if want, e := encoded(list); e == api.OK {
		checkBoth(t, list, want)
	} else {
		checkRefused(t, list, e)
	}
	if !slices.Equal(list, before) {
		t.Fatalf("Encode(%s) made %s of it", short(before), short(list))
	}
}

// checkBytes: whatever comes is the bytes of points, or ErrForm.
func checkBytes(t *testing.T, b []byte) {
	t.Helper()
	before := bytes.Clone(b)
	list := told(b)
	if own, e := encoded(list); e == api.OK && bytes.Equal(own, b) {
		checkDecode(t, b, list)
		checkEncode(t, list, b)
	} else {
		checkNone(t, b)
	}
	if !bytes.Equal(b, before) {
		t.Fatalf("Decode(%s) made %s of it", short(before), short(b))
	}
}

// noise is n random bytes.
func noise(random *rand.Rand, n int) string {
	b := make([]byte, n)
	random.Read(b)
	return string(b)
}

func floatBits(numbers ...float64) []uint64 {
	var list []uint64
	for _, n := range numbers {
		list = append(list, math.Float64bits(n))
	}
	return list
}

// somePoints are points of each Kind, with times and values of each of their modes.
func somePoints() [][]api.Point {
	negative := math.Copysign(0, -1)
	var all [][]api.Point
	for _, list := range [][]api.Value{
		values(api.Float, floatBits(1)...), values(api.Float, floatBits(0, negative, 0.1, -math.MaxFloat64, 5e-324)...), slices.Repeat(values(api.Float, floatBits(0.1, 0.3)...), 20),
		values(api.Integer, 5), values(api.Integer, 5, 6), values(api.Integer, 1<<63, 1<<63-1, 0), slices.Repeat(values(api.Integer, 7), 30),
		values(api.Boolean, 0), values(api.Boolean, 1), values(api.Boolean, 1, 0, 1), values(api.Boolean, 0, 0, 0, 0, 0, 0, 0, 0, 1),
		texts(""), texts("hi"), texts("abc", "", "\x00\xff\n"), texts(strings.Repeat("x", 300)), slices.Repeat(texts("hello"), 30),
	} {
		all = append(all, points(list, -7, 10), points(list, 5, 1, 3), points(list, least, 1<<59, 1, 2))
	}
	return all
}

func TestSum(t *testing.T) {
	for _, c := range []struct {
		text string
		want uint32
	}{
		{"", 0},
		{"\x00", 0xd202ef8d},
		{"\xff", 0xff000000},
		{"a", 0xe8b7be43},
		{"abc", 0x352441c2},
		{"123456789", 0xcbf43926},
		{"\x00\x00\x00\x00", 0x2144df1c},
		{"\xff\xff\xff\xff", 0xffffffff},
		{"The quick brown fox jumps over the lazy dog", 0x414fa339},
	} {
		if sum := block.Sum([]byte(c.text)); sum != c.want {
			t.Errorf("Sum(%q): %x, not %x", c.text, sum, c.want)
		}
	}
	if block.Sum(nil) != 0 || block.Sum([]byte{}) != 0 {
		t.Error("no bytes have a sum")
	}
}

func TestSumOfAnything(t *testing.T) {
	random := rand.New(rand.NewSource(1))
	check := func(b []byte) {
		t.Helper()
		before := bytes.Clone(b)
		if sum, want := block.Sum(b), crc32.ChecksumIEEE(b); sum != want || !bytes.Equal(b, before) {
			t.Fatalf("Sum(%s): %x, not %x", short(before), sum, want)
		}
	}
	for first := range 256 {
		check([]byte{byte(first)})
		for second := range 256 {
			check([]byte{byte(first), byte(second)})
		}
	}
	for n := range 600 {
		check([]byte(noise(random, n)))
		check(make([]byte, n))
		check(bytes.Repeat([]byte{0xff}, n))
	}
	check([]byte(noise(random, 1<<20)))
}

func TestBlocks(t *testing.T) {
	const nought = "\x00\x00\x00\x00\x00\x00\x00\x00"
	const five = "\x00\x00\x00\x0b\x00\x00\x01\x00\x00\x00\x00\x00\x00\x00\x05"
	for _, c := range []struct {
		points []api.Point
		want   string
	}{
		{points(values(api.Boolean, 1), 5, 1), "\x03" + five + "\x80" + "\x02\xb1\x09\xc1"},
		{points(values(api.Boolean, 0), 5, 1), "\x03" + five + "\x00" + "\xef\x09\x8a\xe1"},
		{points(values(api.Float, floatBits(1)...), 5, 1), "\x01" + five + "\x3f\xf0\x00\x00\x00\x00\x00\x00" + "\xe5\x34\xc1\x7b"},
		{points(values(api.Integer, 5), 5, 1), "\x02" + five + "\x01\x30\x00\x00\x00\x00\x00\x00\x0a" + "\x5c\x5d\x70\xc2"},
		{points(texts("hi"), 5, 1), "\x04" + five + "\x00\x02hi" + "\x94\x5b\xe1\xa1"},
		// Three times that are as far from each other.
		{points(values(api.Boolean, 1, 0, 1), 0, 10), "\x03\x00\x00\x00\x13\x01\x00\x03" + nought + "\x00\x00\x00\x00\x00\x00\x00\x0a" + "\xa0" + "\x4f\x00\x85\x95"},
		// Four times that are packed, and integers that are.
		{points(values(api.Integer, 1, 1, 1, 1), 0, 10, 11, 10), "\x02\x00\x00\x00\x13\x02\x00\x04" + nought + "\x40\x00\x00\x00\x00\x00\x04\x54" + "\x01\x10\x00\x00\x00\x00\x00\x00\x02" + "\xc5\x08\xe5\xe6"},
	} {
		checkBoth(t, c.points, []byte(c.want))
	}
}

// TestSpan: the first time and the last one, below 0 and at the edges too.
func TestSpan(t *testing.T) {
	for _, times := range [][]int64{{0}, {-1}, {least}, {most}, {least, most}, {-5, 5}, {-9, -8, -2}, {least, -1, 0, most}, {3, 1 << 40, 1 << 62}} {
		for _, kind := range kinds {
			var list []api.Point
			for _, at := range times {
				list = append(list, api.Point{Time: at, Value: api.Value{Kind: kind}})
			}
			b, e := block.Encode(list)
			if e != api.OK {
				t.Fatalf("Encode(%s): %v", short(list), e)
			}
			from, to, n, e := block.Span(b)
			if from != times[0] || to != times[len(times)-1] || n != len(times) || e != api.OK {
				t.Errorf("Span of %d: %d, %d, %d, %v", times, from, to, n, e)
			}
		}
	}
}

func TestEachCount(t *testing.T) {
	random := rand.New(rand.NewSource(2))
	for n := 1; n <= 1000; n++ {
		if n > 70 && n%60 > 3 && n < 995 {
			continue
		}
		for _, kind := range kinds {
			var list []api.Value
			for range n {
				list = append(list, someValue(random, kind))
			}
			checkPoints(t, points(list, int64(-n), 10))
			checkPoints(t, points(list, int64(n), 1, 2, 9))
			checkPoints(t, points(list, least, 1<<53, 1))
		}
	}
}

// unformed are values that aren't formed.
func unformed() []api.Value {
	return []api.Value{
		{}, {Kind: 5}, {Kind: -1}, {Kind: 256 + api.Boolean}, {Kind: 9, Text: "a"}, {Kind: math.MaxInt}, {Kind: math.MinInt},
		{Kind: api.Float, Bits: math.Float64bits(math.NaN())}, {Kind: api.Float, Bits: math.Float64bits(math.Inf(-1))}, {Kind: api.Float, Text: "a"},
		{Kind: api.Integer, Bits: 1, Text: "1"}, {Kind: api.Boolean, Bits: 2}, {Kind: api.Boolean, Bits: 1, Text: "t"}, {Kind: api.String, Bits: 1}, {Kind: api.String, Text: strings.Repeat("a", 65537)},
	}
}

func TestEncodeRefuses(t *testing.T) {
	checkRefused(t, nil, api.ErrArg)
	checkRefused(t, []api.Point{}, api.ErrArg)
	for _, kind := range kinds {
		one := values(kind, 0)
		checkPoints(t, points(slices.Repeat(one, 1000), 0, 1))
		for _, n := range []int{1001, 1002, 2000, 65536, 66536} {
			checkRefused(t, points(slices.Repeat(one, n), 0, 1), api.ErrArg)
		}
		// Times that don't rise, wherever they stand.
		for _, n := range []int{2, 3, 10, 1000} {
			for _, place := range []int{1, n / 2, n - 1} {
				for _, less := range []int64{10, 11, 1 << 40} {
					list := points(slices.Repeat(one, n), 0, 10)
					list[place].Time -= less
					checkRefused(t, list, api.ErrArg)
				}
			}
		}
		for _, place := range []int{0, 1, 500, 999} {
			for _, v := range unformed() {
				list := points(slices.Repeat(one, 1000), 0, 10)
				list[place].Value = v
				checkRefused(t, list, api.ErrArg)
				checkRefused(t, list[place:place+1], api.ErrArg)
			}
			for _, other := range kinds {
				list := points(slices.Repeat(one, 1000), 0, 10)
				list[place].Value = values(other, 0)[0]
				if other != kind {
					checkRefused(t, list, api.ErrType)
				}
				checkPoints(t, list)
			}
		}
	}
}

// TestTooLong: with their lengths strings of 2^22 bytes are taken, one more is too many.
func TestTooLong(t *testing.T) {
	random := rand.New(rand.NewSource(3))
	for _, text := range []string{strings.Repeat("a", 65533), noise(random, 65533)} {
		list := points(slices.Repeat(texts(text), 64), 0, 10)
		checkPoints(t, list)
		more := append(slices.Clone(list), points(texts(""), 1000, 1)...)
		checkRefused(t, more, api.ErrLong)
		list[20].Value.Text += "b"
		checkRefused(t, list, api.ErrLong)
	}
}

// TestOrderOfErrors: what is asked of the times is asked first, then of the values ErrArg ahead of ErrType, and this ahead of ErrLong.
func TestOrderOfErrors(t *testing.T) {
	long := slices.Repeat(texts(strings.Repeat("a", 65536)), 100)
	unlike := append(slices.Clone(long), values(api.Integer, 1)...)
	wrong := append(slices.Clone(unlike), api.Value{})
	checkRefused(t, points(long, 0, 1), api.ErrLong)
	checkRefused(t, points(unlike, 0, 1), api.ErrType)
	checkRefused(t, points(wrong, 0, 1), api.ErrArg)
	for _, list := range [][]api.Value{long, unlike, wrong} {
		checkRefused(t, points(list, 0, 0), api.ErrArg)
		checkRefused(t, points(list, 0, -1), api.ErrArg)
		checkRefused(t, points(slices.Repeat(list, 11), 0, 1), api.ErrArg)
	}
	checkRefused(t, points(slices.Concat(values(api.Integer, 1), values(api.Boolean, 1)), 7, 0), api.ErrArg)
	checkRefused(t, points(slices.Concat(values(api.Integer, 1), values(api.Boolean, 1)), 7, 1), api.ErrType)
}

// TestDecodeOfAnotherSum: points have one sum alone, the highest byte of it first.
func TestDecodeOfAnotherSum(t *testing.T) {
	for _, list := range somePoints() {
		b, _ := encoded(list)
		end := len(b) - 4
		sum := binary.BigEndian.Uint32(b[end:])
		for _, other := range []uint32{0, ^sum, sum + 1, sum - 1, sum ^ 1<<31, math.MaxUint32} {
			checkNone(t, binary.BigEndian.AppendUint32(bytes.Clone(b[:end]), other))
		}
		checkNone(t, binary.LittleEndian.AppendUint32(bytes.Clone(b[:end]), sum))
		// Begun with 0, and not turned at the end.
		checkNone(t, binary.BigEndian.AppendUint32(bytes.Clone(b[:end]), ^crc32.Update(math.MaxUint32, crc32.IEEETable, b[:end])))
		checkNone(t, binary.BigEndian.AppendUint32(bytes.Clone(b[:end]), ^sum))
		// A sum of less than all.
		checkNone(t, binary.BigEndian.AppendUint32(bytes.Clone(b[:end]), crc32.ChecksumIEEE(b[1:end])))
		checkNone(t, binary.BigEndian.AppendUint32(bytes.Clone(b[:end]), crc32.ChecksumIEEE(b[5:end])))
		checkNone(t, b[:end])
	}
}

// TestDecodeOfAnotherKind: the Kind is one of four, and the values are bytes of it.
func TestDecodeOfAnotherKind(t *testing.T) {
	for _, list := range somePoints() {
		times, own, _, _ := laid(list)
		for kind := range 256 {
			b := blockOf(byte(kind), uint32(len(times)), times, own)
			checkBytes(t, b)
			if kind < api.Float || kind > api.String {
				checkNone(t, b)
			}
		}
	}
}

// TestDecodeOfAnotherSize: the times have as many bytes as the head says, and the values what is left, with the right sum too.
func TestDecodeOfAnotherSize(t *testing.T) {
	for _, list := range somePoints() {
		times, own, _, _ := laid(list)
		kind := byte(list[0].Value.Kind)
		for size := range uint32(len(times) + len(own) + 20) {
			b := blockOf(kind, size, times, own)
			checkBytes(t, b)
			if size != uint32(len(times)) {
				checkNone(t, b)
			}
		}
		n := uint32(len(times))
		for _, size := range []uint32{n << 8, n << 16, n << 24, n + 1<<8, n + 1<<24, n + 1<<31, 1 << 31, 1<<31 - 1, math.MaxUint32 - 4, math.MaxUint32} {
			checkNone(t, blockOf(kind, size, times, own))
		}
	}
}

// TestDecodeOfOtherParts: with the right size and the right sum times and values are refused that aren't their own bytes, or aren't as many.
func TestDecodeOfOtherParts(t *testing.T) {
	all := somePoints()
	for _, first := range all {
		times, own, _, _ := laid(first)
		kind, size := byte(first[0].Value.Kind), uint32(len(times))
		checkNone(t, blockOf(kind, 0, nil, nil))
		checkNone(t, blockOf(kind, 0, nil, own))
		checkNone(t, blockOf(kind, size, times, nil))
		checkNone(t, blockOf(kind, size-1, times[:size-1], own))
		checkNone(t, blockOf(kind, size+1, append(bytes.Clone(times), 0), own))
		checkNone(t, blockOf(kind, size, times, append(bytes.Clone(own), 0)))
		checkBytes(t, blockOf(kind, size, times, own[:len(own)-1]))
		for _, second := range all {
			_, others, _, _ := laid(second)
			checkBytes(t, blockOf(kind, size, times, others))
		}
	}
	one := "\x00\x00\x01\x00\x00\x00\x00\x00\x00\x00\x05"
	two := "\x01\x00\x02\x00\x00\x00\x00\x00\x00\x00\x05\x00\x00\x00\x00\x00\x00\x00\x0a"
	for _, c := range []struct {
		kind          byte
		times, values string
	}{
		// More values than times, and fewer.
		{4, one, "\x00\x01a\x01b"}, {4, two, "\x00\x01a"}, {3, two, "\x20"}, {3, one, "\x40"}, {1, one, "\x00\x00\x00\x00\x00\x00\x00\x00\x00"}, {1, two, "\x00\x00\x00\x00\x00\x00\x00\x00"},
		// Times of another mode, or that don't rise.
		{3, "\x00\x00\x02\x00\x00\x00\x00\x00\x00\x00\x05\x00\x00\x00\x00\x00\x00\x00\x0f", "\x80"}, {3, "\x00" + two[1:], "\x80"}, {3, "\x01\x00\x02\x00\x00\x00\x00\x00\x00\x00\x05\x00\x00\x00\x00\x00\x00\x00\x00", "\x80"}, {3, "\x00\x00\x00\x00\x00\x00\x00\x00\x00\x00\x05", ""},
		// Values that aren't formed, or lie otherwise.
		{1, one, "\x7f\xf0\x00\x00\x00\x00\x00\x00"}, {1, one, "\x7f\xf8\x00\x00\x00\x00\x00\x01"}, {2, one, "\x00\x00\x00\x00\x00\x00\x00\x00\x05"}, {2, one, "\x01\x40\x00\x00\x00\x00\x00\x00\x0a"}, {4, one, "\x01\x03\x02hi"}, {4, one, "\x00\x82\x00hi"},
	} {
		checkNone(t, blockOf(c.kind, uint32(len(c.times)), []byte(c.times), []byte(c.values)))
	}
	checkDecode(t, blockOf(3, uint32(len(two)), []byte(two), []byte("\x80")), points(values(api.Boolean, 1, 0), 5, 10))
	checkDecode(t, blockOf(4, uint32(len(two)), []byte(two), []byte("\x00\x01a\x01b")), points(texts("a", "b"), 5, 10))
}

func TestDecodeOfTooFewOrManyBytes(t *testing.T) {
	checkNone(t, nil)
	checkNone(t, []byte{})
	for _, list := range somePoints() {
		b, _ := encoded(list)
		for i := range len(b) {
			checkNone(t, b[:i])
			checkNone(t, b[i+1:])
			// Cut, with the right sum.
			checkBytes(t, sealed(b[:i]))
		}
		for i := 1; i <= 17; i++ {
			for _, fill := range []byte{0, 0xff} {
				filling := bytes.Repeat([]byte{fill}, i)
				checkNone(t, slices.Concat(b, filling))
				checkNone(t, slices.Concat(filling, b))
				checkNone(t, sealed(slices.Concat(b[:len(b)-4], filling)))
				checkBytes(t, sealed(slices.Concat(filling, b[:len(b)-4])))
			}
		}
		checkNone(t, slices.Concat(b, b))
		// What has a sum isn't points yet.
		checkNone(t, sealed(b))
	}
	for n := range 40 {
		for fill := range 256 {
			b := bytes.Repeat([]byte{byte(fill)}, n)
			checkNone(t, b)
			checkNone(t, sealed(b))
		}
	}
	checkNone(t, make([]byte, 1<<20))
	checkNone(t, sealed(make([]byte, 1<<20)))
}

// TestDecodeOfChangedBytes turns single bits, and makes each byte another one: the sum tells it, and with a new sum it is as it says.
func TestDecodeOfChangedBytes(t *testing.T) {
	for _, list := range somePoints() {
		b, _ := encoded(list[:min(len(list), 12)])
		for bit := range 8 * len(b) {
			changed := bytes.Clone(b)
			changed[bit/8] ^= 128 >> (bit % 8)
			checkNone(t, changed)
			checkBytes(t, sealed(changed[:len(b)-4]))
		}
	}
	b, _ := encoded(points(values(api.Integer, 5, 6), 0, 10))
	for i := range b {
		for more := 1; more < 256; more++ {
			changed := bytes.Clone(b)
			changed[i] += byte(more)
			checkNone(t, changed)
		}
	}
}

// someValue is a formed value of that Kind.
func someValue(random *rand.Rand, kind int) api.Value {
	switch kind {
	case api.Float:
		return values(kind, floatBits(float64(random.Intn(500))/10)...)[0]
	case api.Integer:
		return values(kind, random.Uint64()>>random.Intn(64))[0]
	case api.Boolean:
		return values(kind, uint64(random.Intn(2)))[0]
	}
	return texts([]string{"", "on", "fan running", noise(random, random.Intn(20))}[random.Intn(4)])[0]
}

// someRow is a row of points, most often one that has bytes.
func someRow(random *rand.Rand, most int) []api.Point {
	kind := kinds[random.Intn(4)]
	at, far := int64(random.Uint64())>>random.Intn(64), 1+random.Intn(50)
	var list []api.Point
	for range random.Intn(most) {
		list = append(list, api.Point{Time: at, Value: someValue(random, kind)})
		at += 1 + int64(random.Uint64()>>(63-far))
	}
	if len(list) > 0 && random.Intn(10) == 0 {
		list[random.Intn(len(list))].Value.Kind = random.Intn(6)
	}
	if len(list) > 0 && random.Intn(10) == 0 {
		list[random.Intn(len(list))].Time -= int64(random.Intn(100))
	}
	return list
}

func TestThereAndBack(t *testing.T) {
	random := rand.New(rand.NewSource(4))
	for range 500 {
		checkPoints(t, someRow(random, 1010))
	}
	for range 50000 {
		checkPoints(t, someRow(random, 6))
	}
}

func TestDecodeOfAnything(t *testing.T) {
	random := rand.New(rand.NewSource(5))
	for range 100000 {
		b := []byte(noise(random, random.Intn(60)))
		checkBytes(t, b)
		checkBytes(t, sealed(b))
		// Right times, and whatever values.
		times, _ := stamp.Encode([]int64{5, 6, 8, 9}[:1+random.Intn(4)])
		checkBytes(t, blockOf(byte(random.Intn(6)), uint32(len(times)), times, b))
		b = append([]byte{byte(random.Intn(2)), byte(random.Intn(4))}, b[:min(len(b), 1+random.Intn(9))]...)
		checkBytes(t, blockOf(byte(random.Intn(6)), uint32(len(times)), times, b))
	}
}

// TestArgumentsStay: what is handed in isn't changed, nor its spare room, and no answer hangs on it later.
func TestArgumentsStay(t *testing.T) {
	other := api.Point{Time: 9, Value: api.Value{Kind: 9}}
	for _, list := range somePoints() {
		want, _ := encoded(list)
		room := slices.Concat([]api.Point{other}, list, []api.Point{other, other, other})
		before := slices.Clone(room)
		b, _ := block.Encode(room[1 : 1+len(list)])
		if !slices.Equal(room, before) {
			t.Errorf("the points are %s now", short(room))
		}
		clear(room)
		if !bytes.Equal(b, want) {
			t.Errorf("the answer is %s now", short(b))
		}
		bytesRoom := slices.Concat([]byte{9, 9}, want, bytes.Repeat([]byte{9}, 50))
		bytesBefore := bytes.Clone(bytesRoom)
		got, _ := block.Decode(bytesRoom[2 : 2+len(want)])
		block.Span(bytesRoom[2 : 2+len(want)])
		block.Sum(bytesRoom[2 : 2+len(want)])
		if !bytes.Equal(bytesRoom, bytesBefore) {
			t.Errorf("the bytes are %s now", short(bytesRoom))
		}
		clear(bytesRoom)
		if !slices.Equal(got, list) {
			t.Errorf("the answer is %s now", short(got))
		}
	}
}

// TestAnswersAreNew: each answer has its own memory, its spare room too, and no call leaves a mark for the next one.
func TestAnswersAreNew(t *testing.T) {
	for _, list := range somePoints() {
		want, _ := encoded(list)
		first, _ := block.Encode(list)
		second, _ := block.Encode(list)
		all := first[:cap(first)]
		for i := range all {
			all[i] = 0xaa
		}
		own, _ := block.Decode(want)
		others, _ := block.Decode(want)
		room := own[:cap(own)]
		for i := range room {
			room[i] = api.Point{Time: 9}
		}
		if !bytes.Equal(second, want) || !slices.Equal(others, list) {
			t.Errorf("two answers of %s share memory", short(list))
		}
		checkPoints(t, list)
	}
}

func FuzzDecode(f *testing.F) {
	for _, list := range somePoints() {
		b, _ := encoded(list)
		f.Add(b)
		f.Add(b[:len(b)-4])
	}
	f.Add([]byte{})
	f.Add([]byte("\x03\xff\xff\xff\xff"))
	f.Fuzz(func(t *testing.T, b []byte) {
		checkBytes(t, b)
		checkBytes(t, sealed(b))
	})
}
