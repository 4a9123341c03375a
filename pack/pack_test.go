package pack_test

import (
	"bytes"
	"encoding/binary"
	"fmt"
	"math"
	mathbits "math/bits"
	"math/rand"
	"slices"
	"strconv"
	"strings"
	"testing"

	"grist/api"
	"grist/pack"
)

// kind is a kind of word: its code, the width of its numbers, how many find room.
type kind struct {
	code, width, room int
}

// kinds are all kinds of words, the rooms written out.
func kinds() []kind {
	return []kind{
		{0, 1, 60}, {1, 2, 30}, {2, 3, 20}, {3, 4, 15}, {4, 5, 12}, {5, 6, 10}, {6, 7, 8}, {7, 8, 7},
		{8, 10, 6}, {9, 12, 5}, {10, 15, 4}, {11, 20, 3}, {12, 30, 2}, {13, 60, 1},
	}
}

// word is the bytes of a word of that kind with these numbers, by way of a text of 64 digits: what Pack and Unpack are held against.
func word(k kind, numbers []uint64) []byte {
	text := ""
	for _, v := range numbers {
		text = fmt.Sprintf("%0*b", k.width, v) + text
	}
	text = fmt.Sprintf("%04b", k.code) + strings.Repeat("0", 60-len(text)) + text
	v, err := strconv.ParseUint(text, 2, 64)
	if err != nil || len(text) != 64 {
		panic("a word of " + text)
	}
	return binary.BigEndian.AppendUint64(nil, v)
}

// longest is how many bits the longest of these numbers has.
func longest(numbers []uint64) int {
	most := 0
	for _, v := range numbers {
		most = max(most, mathbits.Len64(v))
	}
	return most
}

// words is the bytes of the list's words, as the document tells them.
func words(list []uint64) []byte {
	var b []byte
	for len(list) > 0 {
		for _, k := range kinds() {
			numbers := list[:min(k.room, len(list))]
			if longest(numbers) <= k.width {
				b = append(b, word(k, numbers)...)
				list = list[len(numbers):]
				break
			}
		}
	}
	return b
}

// unpacked is the list of n numbers whose bytes b are, and whether there is one.
func unpacked(b []byte, n int) ([]uint64, bool) {
	var list []uint64
	for rest := b; len(rest) >= 8; rest = rest[8:] {
		text := fmt.Sprintf("%064b", binary.BigEndian.Uint64(rest))
		code, _ := strconv.ParseUint(text[:4], 2, 64)
		if code > 13 {
			return nil, false
		}
		k := kinds()[code]
		for i := range k.room {
			end := 64 - i*k.width
			v, _ := strconv.ParseUint(text[end-k.width:end], 2, 64)
			if len(list) < n {
				list = append(list, v)
			}
		}
	}
	return list, len(list) == n && bytes.Equal(words(list), b)
}

func checkPack(t *testing.T, list []uint64, want []byte) {
	t.Helper()
	b, e := pack.Pack(list)
	if e != api.OK || !bytes.Equal(b, want) {
		t.Fatalf("Pack(%s): %s, %v, not %s", told(list), told(b), e, told(want))
	}
}

func checkUnpack(t *testing.T, b []byte, want []uint64) {
	t.Helper()
	list, e := pack.Unpack(b, len(want))
	if e != api.OK || !slices.Equal(list, want) {
		t.Fatalf("Unpack(%s, %d): %s, %v, not %s", told(b), len(want), told(list), e, told(want))
	}
}

// checkNone: b is not the bytes of n numbers.
func checkNone(t *testing.T, b []byte, n int) {
	t.Helper()
	if list, e := pack.Unpack(b, n); e != api.ErrForm || len(list) != 0 {
		t.Fatalf("Unpack(%s, %d): %s, %v, not ErrForm", told(b), n, told(list), e)
	}
}

// told is a list or bytes in few words, however many they are.
func told(some any) string {
	text := fmt.Sprintf("%x", some)
	if len(text) > 300 {
		text = text[:300] + " and so on"
	}
	return text
}

// checkBoth holds Pack and Unpack of a list against the document's words of it.
func checkBoth(t *testing.T, list []uint64) {
	t.Helper()
	want := words(list)
	checkPack(t, list, want)
	checkUnpack(t, want, list)
}

// checkAnything: whatever comes is a list's bytes, or ErrForm.
func checkAnything(t *testing.T, b []byte, n int) {
	t.Helper()
	before := bytes.Clone(b)
	if want, ok := unpacked(b, n); ok {
		checkUnpack(t, b, want)
		checkPack(t, want, b)
	} else {
		checkNone(t, b, n)
	}
	if !bytes.Equal(b, before) {
		t.Fatalf("Unpack(%s) made %s of it", told(before), told(b))
	}
}

// some is n times v.
func some(n int, v uint64) []uint64 {
	return slices.Repeat([]uint64{v}, n)
}

// greatest is the greatest number of that width.
func greatest(width int) uint64 {
	return 1<<width - 1
}

func TestPack(t *testing.T) {
	for _, c := range []struct {
		list []uint64
		want string
	}{
		{nil, ""},
		{[]uint64{}, ""},
		{[]uint64{1, 1, 0}, "\x00\x00\x00\x00\x00\x00\x00\x03"},
		{[]uint64{1 << 59}, "\xd8\x00\x00\x00\x00\x00\x00\x00"},
		{[]uint64{0}, "\x00\x00\x00\x00\x00\x00\x00\x00"},
		{[]uint64{1}, "\x00\x00\x00\x00\x00\x00\x00\x01"},
		{[]uint64{0, 0, 1}, "\x00\x00\x00\x00\x00\x00\x00\x04"},
		{[]uint64{2}, "\x10\x00\x00\x00\x00\x00\x00\x02"},
		{[]uint64{10, 2}, "\x30\x00\x00\x00\x00\x00\x00\x2a"},
		{[]uint64{255, 3}, "\x70\x00\x00\x00\x00\x00\x03\xff"},
		{[]uint64{256, 1}, "\x80\x00\x00\x00\x00\x00\x05\x00"},
		{[]uint64{1, 1 << 29}, "\xc8\x00\x00\x00\x00\x00\x00\x01"},
		{[]uint64{1, 1 << 30}, "\xd0\x00\x00\x00\x00\x00\x00\x01\xd0\x00\x00\x00\x40\x00\x00\x00"},
		{[]uint64{1 << 30, 1}, "\xd0\x00\x00\x00\x40\x00\x00\x00\x00\x00\x00\x00\x00\x00\x00\x01"},
		{[]uint64{1<<60 - 1}, "\xdf\xff\xff\xff\xff\xff\xff\xff"},
		{[]uint64{1<<60 - 1, 0}, "\xdf\xff\xff\xff\xff\xff\xff\xff\x00\x00\x00\x00\x00\x00\x00\x00"},
		{some(60, 1), "\x0f\xff\xff\xff\xff\xff\xff\xff"},
		{some(61, 1), "\x0f\xff\xff\xff\xff\xff\xff\xff\x00\x00\x00\x00\x00\x00\x00\x01"},
		{some(8, 127), "\x60\xff\xff\xff\xff\xff\xff\xff"},
		{some(7, 255), "\x70\xff\xff\xff\xff\xff\xff\xff"},
	} {
		checkPack(t, c.list, []byte(c.want))
		checkUnpack(t, []byte(c.want), c.list)
	}
}

// TestEachWidth has of each width one number, a word's room, one fewer and one more, and all of them more by a bit.
func TestEachWidth(t *testing.T) {
	for _, k := range kinds() {
		top := greatest(k.width)
		for n := 1; n <= k.room; n++ {
			list := some(n, top)
			checkPack(t, list, word(k, list))
			checkUnpack(t, word(k, list), list)
			// Noughts behind a long number take its width.
			list = append([]uint64{top}, some(n-1, 0)...)
			checkPack(t, list, word(k, list))
			checkUnpack(t, word(k, list), list)
		}
		full := word(k, some(k.room, top))
		checkPack(t, some(k.room+1, top), append(full, word(k, []uint64{top})...))
		checkPack(t, some(3*k.room, top), bytes.Repeat(full, 3))
		checkBoth(t, some(k.room+1, top))
		if k.width == 60 {
			continue
		}
		wider := kinds()[k.code+1]
		checkPack(t, []uint64{top + 1}, word(wider, []uint64{top + 1}))
		checkBoth(t, some(k.room, top+1))
		checkBoth(t, some(k.room+1, top+1))
	}
}

// TestLongNumberAtEachPlace: a word's width is that of the longest number that finds room, wherever it stands, and of none behind.
func TestLongNumberAtEachPlace(t *testing.T) {
	for _, k := range kinds() {
		for place := range k.room + 1 {
			for width := 1; width <= 60; width++ {
				list := some(k.room+1, greatest(k.width))
				list[place] = greatest(width)
				checkBoth(t, list)
				list = some(k.room+1, 0)
				list[place] = 1 << (width - 1)
				checkBoth(t, list)
			}
		}
	}
}

// TestLeastWidthOfTheRest: where fewer are left than find room, all that are left count, and no more.
func TestLeastWidthOfTheRest(t *testing.T) {
	k := kinds()
	big := uint64(1) << 59
	list := append(some(60, 1), big, 7, 7)
	checkPack(t, list, slices.Concat(word(k[0], some(60, 1)), word(k[13], []uint64{big}), word(k[2], []uint64{7, 7})))
	checkBoth(t, list)
	// Of 59 numbers of one bit ahead of a long one no word of width 1 is made, though they would find room.
	list = append(some(59, 1), big)
	checkPack(t, list, slices.Concat(
		word(k[1], some(30, 1)), word(k[2], some(20, 1)), word(k[6], some(8, 1)), word(k[13], []uint64{1}), word(k[13], []uint64{big}),
	))
	checkBoth(t, list)
	list = append(some(59, 1), 3)
	checkPack(t, list, slices.Concat(word(k[1], some(30, 1)), word(k[1], append(some(29, 1), 3))))
	checkBoth(t, list)
}

func TestPackOfTooMuch(t *testing.T) {
	for _, much := range []uint64{1 << 60, 1<<60 + 1, 1 << 61, 1 << 62, 1 << 63, 1<<63 + 1, 15 << 60, math.MaxUint64} {
		for _, list := range [][]uint64{{much}, {much, 0}, {0, much}, {1, 2, much, 3}, {much, much}, append(some(60, 1), much), append([]uint64{much}, some(1000, 7)...)} {
			if b, e := pack.Pack(list); e != api.ErrRange || len(b) != 0 {
				t.Errorf("Pack(%s): %s, %v, not ErrRange", told(list), told(b), e)
			}
		}
	}
}

func TestUnpackOfNone(t *testing.T) {
	for _, b := range [][]byte{nil, {}, make([]byte, 0, 16)} {
		checkUnpack(t, b, nil)
		for _, n := range []int{1, 2, 60, math.MaxInt, -1, -60, math.MinInt} {
			checkNone(t, b, n)
		}
	}
}

// TestUnpackOfAnotherCount: a list's bytes are those of another count nowhere, but where noughts end it within a word.
func TestUnpackOfAnotherCount(t *testing.T) {
	for _, k := range kinds() {
		for _, n := range []int{1, max(k.room-1, 1), k.room, k.room + 1, 3 * k.room} {
			list := some(n, greatest(k.width))
			b := words(list)
			checkUnpack(t, b, list)
			for count := -1; count <= n+61; count++ {
				checkAnything(t, b, count)
			}
			for _, count := range []int{n - 1, -n, 1 << 31, 1<<60 + n, math.MaxInt, math.MinInt} {
				checkNone(t, b, count)
			}
		}
	}
	// Three bits, and up to 57 noughts behind them.
	b := words([]uint64{1, 1, 0})
	for n := -1; n <= 62; n++ {
		if n < 2 || n > 60 {
			checkNone(t, b, n)
		} else {
			checkUnpack(t, b, append([]uint64{1, 1}, some(n-2, 0)...))
		}
	}
}

func TestUnpackOfTooFewOrManyBytes(t *testing.T) {
	for _, list := range [][]uint64{{0}, {1, 1, 0}, {5, 6, 7}, {1 << 59}, some(60, 1), some(7, 200), append(some(60, 1), 1<<59, 255, 3)} {
		b := words(list)
		checkUnpack(t, b, list)
		for n := range len(b) {
			checkNone(t, b[:n], len(list))
			checkNone(t, b[n+1:], len(list))
		}
		for n := 1; n <= 16; n++ {
			checkNone(t, append(bytes.Clone(b), make([]byte, n)...), len(list))
			checkNone(t, append(make([]byte, n), b...), len(list))
		}
	}
	// A word for no number.
	checkNone(t, make([]byte, 8), 0)
	checkNone(t, make([]byte, 800), 0)
	checkNone(t, make([]byte, 800), 60)
	checkUnpack(t, make([]byte, 800), some(6000, 0))
	checkUnpack(t, make([]byte, 800), some(5941, 0))
	checkNone(t, make([]byte, 800), 5940)
	checkNone(t, make([]byte, 800), 6001)
}

// TestUnpackOfNoWidth: no width has the number 14 or 15.
func TestUnpackOfNoWidth(t *testing.T) {
	for _, head := range []byte{0xe0, 0xf0, 0xe8, 0xff} {
		b := []byte{head, 0, 0, 0, 0, 0, 0, 1}
		for n := -1; n <= 121; n++ {
			checkNone(t, b, n)
			checkNone(t, append(words(some(60, 1)), b...), n)
			checkNone(t, append(b, words(some(60, 1))...), n)
		}
	}
}

// TestUnpackOfWiderWords: words of a greater width than the least one are no list's, though their numbers can be read.
func TestUnpackOfWiderWords(t *testing.T) {
	for _, k := range kinds() {
		for _, wider := range kinds()[k.code+1:] {
			for n := 1; n <= wider.room; n++ {
				list := some(n, greatest(k.width))
				checkNone(t, word(wider, list), n)
				// As wide as it must be, if only the last number is so long.
				list[n-1] = greatest(wider.width)
				checkUnpack(t, word(wider, list), list)
			}
		}
	}
	// Not the least width of as many as find room, though of fewer.
	two := kinds()[1]
	checkNone(t, slices.Concat(word(two, some(30, 1)), word(two, some(30, 1))), 60)
	checkNone(t, slices.Concat(word(two, some(30, 1)), word(two, append(some(29, 1), 1))), 60)
	checkUnpack(t, slices.Concat(word(two, some(30, 1)), word(two, append(some(29, 1), 2))), append(some(59, 1), 2))
}

// TestUnpackOfNoNoughts: behind a word's numbers stand noughts, in the four bits that no number of width 7 or 8 has, too.
func TestUnpackOfNoNoughts(t *testing.T) {
	for _, k := range kinds() {
		for n := 1; n <= k.room; n++ {
			list := some(n, greatest(k.width))
			for bit := n * k.width; bit < 60; bit++ {
				b := word(k, list)
				b[7-bit/8] |= 1 << (bit % 8)
				checkNone(t, b, n)
			}
		}
	}
}

// someList is a list of a random length, of stretches of numbers of like lengths.
func someList(random *rand.Rand) []uint64 {
	var list []uint64
	for range random.Intn(8) {
		width := random.Intn(61)
		for range random.Intn(70) {
			list = append(list, random.Uint64()&greatest(max(width-random.Intn(4)*random.Intn(2), 0)))
		}
	}
	return list
}

func TestThereAndBack(t *testing.T) {
	random := rand.New(rand.NewSource(1))
	for range 3000 {
		checkBoth(t, someList(random))
	}
}

func TestEachShortList(t *testing.T) {
	edges := []uint64{0, 1, 2, 3, 4, 127, 128, 255, 256, 1<<12 - 1, 1 << 15, 1<<30 - 1, 1 << 30, 1<<60 - 1}
	for _, first := range edges {
		checkBoth(t, []uint64{first})
		for _, second := range edges {
			checkBoth(t, []uint64{first, second})
			for _, third := range edges {
				checkBoth(t, []uint64{first, second, third})
			}
		}
	}
}

// TestUnpackOfChangedBytes turns single bits of a list's bytes, and asks for counts near its own.
func TestUnpackOfChangedBytes(t *testing.T) {
	random := rand.New(rand.NewSource(2))
	for range 200 {
		list := someList(random)
		b := words(list)
		b = b[:min(len(b), 40)]
		for bit := range 8 * len(b) {
			changed := bytes.Clone(b)
			changed[bit/8] ^= 128 >> (bit % 8)
			checkAnything(t, changed, len(list))
			checkAnything(t, changed, random.Intn(len(list)+2))
		}
	}
}

func TestUnpackOfAnything(t *testing.T) {
	random := rand.New(rand.NewSource(3))
	for range 100000 {
		var b []byte
		for range random.Intn(4) {
			// Few numbers above noughts, so that some are lists.
			v := random.Uint64() & greatest(60) >> random.Intn(60)
			b = binary.BigEndian.AppendUint64(b, v|uint64(random.Intn(16))<<60)
		}
		b = append(b, make([]byte, random.Intn(9)*(random.Intn(8)/7))...)
		checkAnything(t, b, random.Intn(70)*(random.Intn(4)+1)/4-1)
	}
}

func TestManyNumbers(t *testing.T) {
	const many = 1 << 20
	list := make([]uint64, many)
	for i := range list {
		list[i] = uint64(i)
	}
	checkBoth(t, list)
	checkBoth(t, some(many, 0))
	checkBoth(t, some(1<<16, 1<<59))
	b := make([]byte, many)
	for _, n := range []int{-1, 0, 1, many, math.MaxInt, math.MinInt} {
		checkNone(t, b, n)
	}
	for i := range b {
		b[i] = 0xff
	}
	checkNone(t, b, many)
}

// TestArgumentsStay: what is handed in isn't changed, nor its spare room, and no answer hangs on it later.
func TestArgumentsStay(t *testing.T) {
	room := []uint64{9, 1, 1 << 40, 3, 9, 9}
	before := slices.Clone(room)
	b, _ := pack.Pack(room[1:4])
	if !slices.Equal(room, before) {
		t.Errorf("the list is %d now", room)
	}
	clear(room)
	checkUnpack(t, b, []uint64{1, 1 << 40, 3})

	bytesRoom := slices.Concat([]byte{9, 9}, b, []byte{9, 9, 9})
	bytesBefore := bytes.Clone(bytesRoom)
	list, _ := pack.Unpack(bytesRoom[2:2+len(b)], 3)
	if !bytes.Equal(bytesRoom, bytesBefore) {
		t.Errorf("the bytes are %x now", bytesRoom)
	}
	clear(bytesRoom)
	if !slices.Equal(list, []uint64{1, 1 << 40, 3}) {
		t.Errorf("the answer is %d now", list)
	}
}

// TestAnswersAreNew: each answer has its own memory, its spare room too.
func TestAnswersAreNew(t *testing.T) {
	for _, list := range [][]uint64{{1}, {1, 1 << 40, 3}, some(61, 1), some(1000, 77)} {
		want := words(list)
		first, _ := pack.Pack(list)
		second, _ := pack.Pack(list)
		all := first[:cap(first)]
		for i := range all {
			all[i] = 0xff
		}
		numbers, _ := pack.Unpack(want, len(list))
		others, _ := pack.Unpack(want, len(list))
		room := numbers[:cap(numbers)]
		for i := range room {
			room[i] = 0xff
		}
		if !bytes.Equal(second, want) || !slices.Equal(others, list) {
			t.Errorf("two answers of %s share memory", told(list))
		}
		checkBoth(t, list)
	}
}

func FuzzUnpack(f *testing.F) {
	f.Add([]byte{}, 0)
	for _, k := range kinds() {
		f.Add(word(k, some(k.room, greatest(k.width))), k.room)
		f.Add(word(k, []uint64{greatest(k.width)}), 1)
	}
	f.Add(words([]uint64{1, 1 << 59, 255, 3}), 4)
	f.Add([]byte{0xe0, 0, 0, 0, 0, 0, 0, 1}, 1)
	f.Fuzz(checkAnything)
}
