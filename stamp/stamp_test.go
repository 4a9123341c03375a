package stamp_test

import (
	"bytes"
	"encoding/binary"
	"fmt"
	"math"
	"math/big"
	"math/rand"
	"slices"
	"testing"

	"grist/api"
	"grist/pack"
	"grist/stamp"
)

const (
	least = math.MinInt64
	most  = math.MaxInt64
)

// head is what stands ahead of everything, with whatever mode, count and first time.
func head(mode byte, n int, first int64) []byte {
	b := binary.BigEndian.AppendUint16([]byte{mode}, uint16(n))
	return binary.BigEndian.AppendUint64(b, uint64(first))
}

// turned is n modulo 2^64.
func turned(n *big.Int) *big.Int {
	return new(big.Int).Mod(n, new(big.Int).Lsh(big.NewInt(1), 64))
}

// distances are the times' distances, by exact numbers.
func distances(times []int64) []*big.Int {
	var list []*big.Int
	for i := 1; i < len(times); i++ {
		d := new(big.Int).Sub(big.NewInt(times[i]), big.NewInt(times[i-1]))
		list = append(list, turned(d))
	}
	return list
}

// zig is layer 3's Zig of n modulo 2^64, taken as int64, by exact numbers.
func zig(n *big.Int) uint64 {
	n = turned(n)
	if !n.IsInt64() {
		n.Sub(n, new(big.Int).Lsh(big.NewInt(1), 64))
	}
	if n.Sign() >= 0 {
		return n.Mul(n, big.NewInt(2)).Uint64()
	}
	n.Mul(n, big.NewInt(-2))
	return n.Sub(n, big.NewInt(1)).Uint64()
}

// changes are the numbers that are packed of times in the mode 2.
func changes(times []int64) []uint64 {
	list := distances(times)
	numbers := []uint64{zig(list[0])}
	for i := 1; i < len(list); i++ {
		numbers = append(numbers, zig(new(big.Int).Sub(list[i], list[i-1])))
	}
	return numbers
}

// inMode is the bytes of the times, were that their mode.
func inMode(mode byte, times []int64) []byte {
	b := head(mode, len(times), times[0])
	switch mode {
	case 0:
		for _, t := range times[1:] {
			b = binary.BigEndian.AppendUint64(b, uint64(t))
		}
	case 1:
		b = binary.BigEndian.AppendUint64(b, distances(times)[0].Uint64())
	case 2:
		packed, e := pack.Pack(changes(times))
		if e != api.OK {
			panic(fmt.Sprint("too far to be packed: ", times))
		}
		b = append(b, packed...)
	}
	return b
}

// modeOf is the mode of times that rise, as the document tells it.
func modeOf(times []int64) byte {
	if len(times) < 2 {
		return 0
	}
	list := distances(times)
	if !slices.ContainsFunc(list, func(d *big.Int) bool { return d.Cmp(list[0]) != 0 }) {
		return 1
	}
	if slices.Max(changes(times)) < 1<<60 {
		return 2
	}
	return 0
}

// stamps is the bytes of the times, and whether they have some: what Encode and Decode are held against.
func stamps(times []int64) ([]byte, bool) {
	if len(times) < 1 || len(times) > 1000 {
		return nil, false
	}
	for i := 1; i < len(times); i++ {
		if times[i-1] >= times[i] {
			return nil, false
		}
	}
	return inMode(modeOf(times), times), true
}

// told is what b's modes say of each time, whether or not it says too little, or more.
func told(b []byte) []int64 {
	if len(b) < 11 {
		return nil
	}
	n, first, rest := int(binary.BigEndian.Uint16(b[1:])), int64(binary.BigEndian.Uint64(b[3:])), b[11:]
	times := []int64{first}
	packed, _ := pack.Unpack(rest, n-1)
	var ahead uint64
	for i := range n - 1 {
		switch {
		case b[0] == 0 && len(rest) >= 8*(i+1):
			times = append(times, int64(binary.BigEndian.Uint64(rest[8*i:])))
		case b[0] == 1 && len(rest) >= 8:
			times = append(times, times[i]+int64(binary.BigEndian.Uint64(rest)))
		case b[0] == 2 && len(packed) == n-1:
			change := packed[i] / 2
			if packed[i]%2 == 1 {
				change = -change - 1
			}
			ahead += change
			times = append(times, times[i]+int64(ahead))
		}
	}
	return times
}

// short is a list or bytes in few words, however many they are.
func short(some any) string {
	text := fmt.Sprintf("%x", some)
	if len(text) > 300 {
		text = text[:300] + " and so on"
	}
	return text
}

func checkEncode(t *testing.T, times []int64, want []byte) {
	t.Helper()
	b, e := stamp.Encode(times)
	if e != api.OK || !bytes.Equal(b, want) {
		t.Fatalf("Encode(%s): %s, %v, not %s", short(times), short(b), e, short(want))
	}
}

func checkDecode(t *testing.T, b []byte, want []int64) {
	t.Helper()
	times, e := stamp.Decode(b)
	if e != api.OK || !slices.Equal(times, want) {
		t.Fatalf("Decode(%s): %s, %v, not %s", short(b), short(times), e, short(want))
	}
}

// checkNone: b is not the bytes of any times.
func checkNone(t *testing.T, b []byte) {
	t.Helper()
	if times, e := stamp.Decode(b); e != api.ErrForm || len(times) != 0 {
		t.Fatalf("Decode(%s): %s, %v, not ErrForm", short(b), short(times), e)
	}
}

// checkRefused: such times have no bytes.
func checkRefused(t *testing.T, times []int64) {
	t.Helper()
	if b, e := stamp.Encode(times); e != api.ErrArg || len(b) != 0 {
		t.Fatalf("Encode(%s): %s, %v, not ErrArg", short(times), short(b), e)
	}
}

// checkTimes holds Encode and Decode of times, whatever they are, against the document's words of them.
func checkTimes(t *testing.T, times []int64) {
	t.Helper()
	before := slices.Clone(times)
	if want, ok := stamps(times); ok {
		checkEncode(t, times, want)
		checkDecode(t, want, times)
	} else {
		checkRefused(t, times)
	}
	if !slices.Equal(times, before) {
		t.Fatalf("Encode(%s) made %s of it", short(before), short(times))
	}
}

// checkMode: the times have bytes of that mode.
func checkMode(t *testing.T, mode byte, times []int64) {
	t.Helper()
	checkTimes(t, times)
	if b, _ := stamp.Encode(times); len(b) == 0 || b[0] != mode {
		t.Fatalf("Encode(%s): %s, not of the mode %d", short(times), short(b), mode)
	}
}

// checkBytes: whatever comes is times' bytes, or ErrForm.
func checkBytes(t *testing.T, b []byte) {
	t.Helper()
	before := bytes.Clone(b)
	times := told(b)
	if own, ok := stamps(times); ok && bytes.Equal(own, b) {
		checkDecode(t, b, times)
		checkEncode(t, times, b)
	} else {
		checkNone(t, b)
	}
	if !bytes.Equal(b, before) {
		t.Fatalf("Decode(%s) made %s of it", short(before), short(b))
	}
}

// steps are n times from first on, by these distances, which come again and again.
func steps(n int, first int64, by ...int64) []int64 {
	times := []int64{first}
	for i := range n - 1 {
		times = append(times, times[i]+by[i%len(by)])
	}
	return times
}

// someTimes are rows of all three modes.
func someTimes() [][]int64 {
	return [][]int64{
		{5}, {least}, {most}, {-1}, {0, 1}, {least, most}, {most - 1, most}, {0, 10, 20, 30}, steps(1000, -7, 60), steps(3, least, most),
		{0, 10, 21, 31}, {0, 1, 3}, {least, most - 4, most}, {0, 1, 1 << 50}, steps(1000, 3, 1, 2, 3), steps(62, 0, 1, 2), steps(1000, -1<<60, 1<<30, 1, 1<<40),
		{least, 0, most}, {0, 1 << 59, 1 << 61}, {least, -5, 0, most}, steps(15, least, 1, 1<<60),
	}
}

func TestStamps(t *testing.T) {
	const nought = "\x00\x00\x00\x00\x00\x00\x00\x00"
	for _, c := range []struct {
		times []int64
		want  string
	}{
		// One time: there are no distances.
		{[]int64{5}, "\x00\x00\x01\x00\x00\x00\x00\x00\x00\x00\x05"},
		{[]int64{-2}, "\x00\x00\x01\xff\xff\xff\xff\xff\xff\xff\xfe"},
		{[]int64{least}, "\x00\x00\x01\x80\x00\x00\x00\x00\x00\x00\x00"},
		// Two times, or more, that are as far from each other.
		{[]int64{0, 10}, "\x01\x00\x02" + nought + "\x00\x00\x00\x00\x00\x00\x00\x0a"},
		{[]int64{0, 10, 20}, "\x01\x00\x03" + nought + "\x00\x00\x00\x00\x00\x00\x00\x0a"},
		{[]int64{-1, 0}, "\x01\x00\x02\xff\xff\xff\xff\xff\xff\xff\xff\x00\x00\x00\x00\x00\x00\x00\x01"},
		{[]int64{least, most}, "\x01\x00\x02\x80\x00\x00\x00\x00\x00\x00\x00\xff\xff\xff\xff\xff\xff\xff\xff"},
		{[]int64{least, 0}, "\x01\x00\x02\x80\x00\x00\x00\x00\x00\x00\x00\x80\x00\x00\x00\x00\x00\x00\x00"},
		{steps(1000, 0, 1), "\x01\x03\xe8" + nought + "\x00\x00\x00\x00\x00\x00\x00\x01"},
		// Packed in one word: 20, 2, 1; 2, 2; 4, 1.
		{[]int64{0, 10, 21, 31}, "\x02\x00\x04" + nought + "\x40\x00\x00\x00\x00\x00\x04\x54"},
		{[]int64{7, 8, 10}, "\x02\x00\x03\x00\x00\x00\x00\x00\x00\x00\x07\x10\x00\x00\x00\x00\x00\x00\x0a"},
		{[]int64{0, 2, 3}, "\x02\x00\x03" + nought + "\x20\x00\x00\x00\x00\x00\x00\x0c"},
		// A distance of 2^64 - 5, taken as -5: 9; and one of 4, which is 9 more: 18.
		{[]int64{least, most - 4, most}, "\x02\x00\x03\x80\x00\x00\x00\x00\x00\x00\x00\x40\x00\x00\x00\x00\x00\x02\x49"},
		// Packed in a word for each: 2^60 - 2, 2^60 - 4; and 2, 2^51 - 6.
		{[]int64{0, 1<<59 - 1, 1<<60 + 1<<59 - 4}, "\x02\x00\x03" + nought + "\xdf\xff\xff\xff\xff\xff\xff\xfe\xdf\xff\xff\xff\xff\xff\xff\xfc"},
		{[]int64{0, 1, 1<<50 - 1}, "\x02\x00\x03" + nought + "\xd0\x00\x00\x00\x00\x00\x00\x02\xd0\x07\xff\xff\xff\xff\xff\xfa"},
		// Too far to be packed.
		{[]int64{0, 1 << 59, 1 << 61}, "\x00\x00\x03" + nought + "\x08\x00\x00\x00\x00\x00\x00\x00\x20\x00\x00\x00\x00\x00\x00\x00"},
		{[]int64{least, 0, most}, "\x00\x00\x03\x80\x00\x00\x00\x00\x00\x00\x00" + nought + "\x7f\xff\xff\xff\xff\xff\xff\xff"},
		{[]int64{-2, -1, most}, "\x00\x00\x03\xff\xff\xff\xff\xff\xff\xff\xfe\xff\xff\xff\xff\xff\xff\xff\xff\x7f\xff\xff\xff\xff\xff\xff\xff"},
	} {
		checkEncode(t, c.times, []byte(c.want))
		checkDecode(t, []byte(c.want), c.times)
	}
}

// TestPackedOrNot: what is packed goes up to 2^60 - 1, of the first distance and of each change, to either side.
func TestPackedOrNot(t *testing.T) {
	const far = 1 << 59
	for _, from := range []int64{0, least, -1 << 59, most - 5<<59} {
		// The first distance.
		checkMode(t, 2, []int64{from, from + far - 1, from + 2*far - 1})
		checkMode(t, 2, []int64{from, from + far - 1, from + far})
		checkMode(t, 0, []int64{from, from + far, from + 2*far + 1})
		checkMode(t, 0, []int64{from, from + far, from + far + 1})
		// The second one, so much more than the first one.
		checkMode(t, 2, []int64{from, from + 5, from + 10 + far - 1})
		checkMode(t, 0, []int64{from, from + 5, from + 10 + far})
		// The third one, so much less than the second one: one more is packed.
		checkMode(t, 2, []int64{from, from + far/2, from + far/2 + far, from + far/2 + far + 1})
		checkMode(t, 2, []int64{from, from + far/2, from + far/2 + far + 1, from + far/2 + far + 2})
		checkMode(t, 0, []int64{from, from + far/2, from + far/2 + far + 2, from + far/2 + far + 3})
		checkMode(t, 2, []int64{from, from + far/2, from + far/2 + far + 2, from + far/2 + far + 4})
		// The last one of many.
		checkMode(t, 2, append(steps(998, from, 1, 2), from+1496, from+1496+far))
		checkMode(t, 0, append(steps(998, from, 1, 2), from+1496, from+1496+far+1))
	}
}

// TestTurnedDistances: distances are numbers modulo 2^64, and what is packed is taken as int64.
func TestTurnedDistances(t *testing.T) {
	const far = 1 << 59
	// A first distance of 2^64 - n is one of -n, and one of m behind it n + m more.
	for _, c := range []struct {
		n, m int64
		mode byte
	}{{5, 4, 2}, {5, 1, 2}, {2, 1, 2}, {far - 2, 1, 2}, {far - 1, 1, 0}, {far, 1, 0}, {far / 2, far/2 - 1, 2}, {far/2 + 1, far/2 - 2, 2}, {far/2 + 1, far/2 - 1, 0}, {far, far - 1, 0}, {far + 1, 1, 0}} {
		at := most - c.n + 1
		checkMode(t, c.mode, []int64{least, at, at + c.m})
	}
	// From a distance of 1 to one of 2^64 - 3 it is 4 less.
	checkMode(t, 2, []int64{least, least + 1, most - 1})
	checkMode(t, 2, []int64{least, least + 1, most - 1, most})
	checkMode(t, 2, []int64{least, least + 1, most - far + 4})
	checkMode(t, 2, []int64{least, least + 1, most - far + 3})
	checkMode(t, 0, []int64{least, least + 1, most - far + 2})
	checkMode(t, 2, []int64{least, most - 2, most - 1, most})
	checkMode(t, 2, []int64{least, most - 1<<50, most - 1<<40, most - 1})
}

// TestAlikeOrNot: all distances count, the first one and the last one too.
func TestAlikeOrNot(t *testing.T) {
	for _, n := range []int{2, 3, 4, 5, 61, 999, 1000} {
		for _, by := range []int64{1, 2, 10, 1 << 40, most / 1000} {
			checkMode(t, 1, steps(n, -1000, by))
			for _, place := range []int{1, 2, n / 2, n - 2, n - 1} {
				times := steps(n, -1000, by)
				if n == 2 || place < 1 || place >= n {
					continue
				}
				for i := place; i < n; i++ {
					times[i]++
				}
				checkMode(t, 2, times)
			}
		}
	}
	// Distances of 2^63 and more are alike too.
	checkMode(t, 1, []int64{least, 0})
	checkMode(t, 1, []int64{least, 1})
	checkMode(t, 1, []int64{least, most - 1})
	checkMode(t, 1, []int64{least, -1, most - 1})
	checkMode(t, 1, []int64{least + 1, 0, most})
	checkMode(t, 0, []int64{least, -1, most})
}

func TestEncodeRefuses(t *testing.T) {
	checkRefused(t, nil)
	checkRefused(t, []int64{})
	for _, times := range [][]int64{
		{0, 0}, {1, 0}, {most, most}, {least, least}, {most, least}, {0, -1}, {0, least}, {1, 2, 2}, {1, 1, 2}, {1, 3, 2}, {2, 1, 3}, {0, 1, 0},
		{10, 20, 30, 30}, {30, 20, 10}, {least, most, least}, {0, most, least}, {1 << 62, -1 << 62, 0},
	} {
		checkRefused(t, times)
	}
	for _, n := range []int{1001, 1002, 2000, 65535, 65536, 65537, 65536 + 1000} {
		checkRefused(t, steps(n, 0, 10))
		checkRefused(t, steps(n, least, 1<<40, 1))
		checkRefused(t, make([]int64, n))
	}
	// One that doesn't rise, wherever it stands.
	for _, n := range []int{2, 3, 10, 1000} {
		for _, place := range []int{1, n / 2, n - 1} {
			for _, less := range []int64{10, 11, 1 << 40} {
				times := steps(n, 0, 10)
				times[place] -= less
				checkRefused(t, times)
			}
		}
	}
}

func TestEachCount(t *testing.T) {
	for n := 1; n <= 1000; n++ {
		if n > 70 && n%60 > 3 && n < 995 {
			continue
		}
		checkTimes(t, steps(n, int64(n), 7))
		checkTimes(t, steps(n, -5, 1, 2))
		checkTimes(t, steps(n, least, 1, 1<<54, 3))
	}
	// As far apart as so many can be: the first distance is too long to be packed.
	checkMode(t, 0, append([]int64{least}, steps(999, 0, 3, 9)...))
	checkMode(t, 1, steps(1000, least, math.MaxUint64/999))
}

// TestEachShortRow has all rows of up to four times of an edge's, rising or not.
func TestEachShortRow(t *testing.T) {
	edges := []int64{least, least + 1, -1 << 62, -1 << 59, -3, -1, 0, 1, 2, 10, 1<<59 - 1, 1 << 59, 1<<59 + 1, 1 << 60, 1<<62 + 1, most - 4, most - 1, most}
	for _, first := range edges {
		checkTimes(t, []int64{first})
		for _, second := range edges {
			checkTimes(t, []int64{first, second})
			for _, third := range edges {
				checkTimes(t, []int64{first, second, third})
				if first >= second || second >= third {
					continue
				}
				for _, last := range edges {
					checkTimes(t, []int64{first, second, third, last})
				}
			}
		}
	}
}

// TestDecodeOfAnotherMode: times have bytes of one mode alone, though others would tell them too.
func TestDecodeOfAnotherMode(t *testing.T) {
	for _, times := range someTimes() {
		b, _ := stamps(times)
		checkDecode(t, b, times)
		for mode := range 256 {
			changed := bytes.Clone(b)
			changed[0] = byte(mode)
			checkBytes(t, changed)
			if mode > 2 {
				checkNone(t, changed)
			}
		}
		if modeOf(times) > 0 {
			checkNone(t, inMode(0, times))
		}
		if modeOf(times) == 1 && changes(times)[0] < 1<<60 {
			checkNone(t, inMode(2, times))
		}
	}
	// One time, with a distance or none.
	checkNone(t, head(1, 1, 5))
	checkNone(t, head(2, 1, 5))
	checkNone(t, append(head(1, 1, 5), make([]byte, 8)...))
	checkNone(t, append(head(2, 1, 5), make([]byte, 8)...))
	checkNone(t, binary.BigEndian.AppendUint64(head(1, 1, 5), 10))
}

func TestDecodeOfAnotherCount(t *testing.T) {
	for _, times := range someTimes() {
		b, _ := stamps(times)
		for n := range 1100 {
			binary.BigEndian.PutUint16(b[1:], uint16(n))
			checkBytes(t, b)
			if n == 0 || n > 1000 {
				checkNone(t, b)
			}
		}
		for _, n := range []int{2000, 1 << 15, 1<<15 + len(times), 1<<16 - 1} {
			binary.BigEndian.PutUint16(b[1:], uint16(n))
			checkNone(t, b)
		}
	}
	// Noughts that fill up a word may be changes: so far, and no farther.
	b, _ := stamps([]int64{0, 10, 21, 31})
	for n := range 30 {
		binary.BigEndian.PutUint16(b[1:], uint16(n))
		if n < 4 || n > 13 {
			checkNone(t, b)
		} else {
			checkDecode(t, b, append([]int64{0, 10, 21}, steps(n-3, 31, 10)...))
		}
	}
	// The count of an even row says how often the distance comes.
	b, _ = stamps([]int64{most - 2000, most - 1998})
	for n := 2; n <= 1000; n++ {
		binary.BigEndian.PutUint16(b[1:], uint16(n))
		checkDecode(t, b, steps(n, most-2000, 2))
	}
}

func TestDecodeOfTooFewOrManyBytes(t *testing.T) {
	checkNone(t, nil)
	checkNone(t, []byte{})
	for _, times := range someTimes() {
		b, _ := stamps(times)
		for n := range min(len(b), 200) {
			checkNone(t, b[:n])
			checkNone(t, b[:len(b)-n-1])
			checkBytes(t, b[n+1:])
		}
		for n := 1; n <= 17; n++ {
			checkNone(t, append(bytes.Clone(b), make([]byte, n)...))
			checkNone(t, append(bytes.Clone(b), bytes.Repeat([]byte{0xff}, n)...))
			checkBytes(t, append(make([]byte, n), b...))
		}
		checkNone(t, append(bytes.Clone(b), b...))
	}
	for mode := range 4 {
		for _, fill := range []byte{0, 1, 0x7f, 0xff} {
			for n := range 40 {
				checkBytes(t, append([]byte{byte(mode)}, bytes.Repeat([]byte{fill}, n)...))
			}
			checkNone(t, append([]byte{byte(mode), 0, 2}, bytes.Repeat([]byte{fill}, 1<<20)...))
		}
	}
}

// TestDecodeOfTooManyTimes: a thousand times are times, one more is too many.
func TestDecodeOfTooManyTimes(t *testing.T) {
	for _, by := range [][]int64{{1}, {1, 2}, {1, 1 << 54}} {
		for _, n := range []int{1001, 1002, 2000, 1<<16 - 1} {
			checkNone(t, inMode(1, steps(n, 0, by[0])))
			checkNone(t, inMode(2, steps(n, 0, by...)))
			checkNone(t, inMode(0, steps(n, least, by...)))
		}
		times := steps(1000, 0, by...)
		checkDecode(t, inMode(modeOf(times), times), times)
	}
}

func TestDecodeOfTimesThatDontRise(t *testing.T) {
	for _, times := range [][]int64{{0, 0}, {1, 0}, {most, least}, {least, 0, 0, most}, {least, most, 0}, {0, 1 << 60, 1 << 60}, {0, 1 << 60, 1}, {1 << 61, 1, 1 << 62}} {
		checkNone(t, inMode(0, times))
	}
	for _, distance := range []int64{0, -1, -10, least} {
		for _, n := range []int{2, 3, 1000} {
			checkNone(t, binary.BigEndian.AppendUint64(head(1, n, 0), uint64(distance)))
		}
	}
	// From the greatest times on they turn to the least ones.
	checkNone(t, binary.BigEndian.AppendUint64(head(1, 2, most), 1))
	checkNone(t, binary.BigEndian.AppendUint64(head(1, 3, most-1), 1))
	checkNone(t, binary.BigEndian.AppendUint64(head(1, 1000, most-998), 1))
	checkDecode(t, binary.BigEndian.AppendUint64(head(1, 1000, most-999), 1), steps(1000, most-999, 1))
	checkNone(t, binary.BigEndian.AppendUint64(head(1, 3, least), 1<<63))
	checkDecode(t, binary.BigEndian.AppendUint64(head(1, 2, least), 1<<63), []int64{least, 0})
	for _, times := range [][]int64{{0, 0, 1}, {5, 4, 3}, {5, 4, 6}, {5, 6, 6}, {5, 7, 6}, {0, 10, 21, 21}, {most - 1, most, least + 5}, {0, 0}, {3, 1}} {
		checkNone(t, inMode(2, times))
	}
	checkNone(t, append(head(2, 1000, 0), make([]byte, 136)...))
}

// TestDecodeOfOtherWords: in the mode 2 stand the words that Pack makes, and no others that have the same numbers.
func TestDecodeOfOtherWords(t *testing.T) {
	times := []int64{0, 10, 21, 31}
	checkDecode(t, append(head(2, 4, 0), 0x40, 0, 0, 0, 0, 0, 4, 0x54), times)
	for _, words := range []string{
		"\x50\x00\x00\x00\x00\x00\x10\x94",
		"\x70\x00\x00\x00\x00\x01\x02\x14",
		"\xc0\x00\x00\x00\x80\x00\x00\x14\x00\x00\x00\x00\x00\x00\x00\x01",
		"\x40\x00\x00\x00\x00\x00\x00\x14\x10\x00\x00\x00\x00\x00\x00\x06",
		"\x40\x00\x00\x00\x00\x00\x84\x54",
		"\x40\x00\x00\x00\x00\x00\x04\x54\x00\x00\x00\x00\x00\x00\x00\x00",
		"\xe0\x00\x00\x00\x00\x00\x04\x54",
		"\xf0\x00\x00\x00\x00\x00\x04\x54",
	} {
		checkNone(t, append(head(2, 4, 0), words...))
	}
}

// someRow is a row of a random length, of distances that are even, near each other, or far.
func someRow(random *rand.Rand) []int64 {
	n := 1 + random.Intn([]int{4, 100, 1000}[random.Intn(3)])
	base, swing := random.Uint64()>>(10+random.Intn(54)), random.Intn(60)
	times := []int64{int64(random.Uint64()) >> random.Intn(64)}
	for len(times) < n {
		d := base
		if random.Intn(4) > 0 {
			d += random.Uint64() >> (64 - swing)
		}
		next := times[len(times)-1] + int64(max(d, 1))
		if next <= times[len(times)-1] {
			break
		}
		times = append(times, next)
	}
	return times
}

func TestThereAndBack(t *testing.T) {
	random := rand.New(rand.NewSource(1))
	for range 1500 {
		checkTimes(t, someRow(random))
	}
	for range 100000 {
		times := make([]int64, 1+random.Intn(5))
		for i := range times {
			times[i] = int64(random.Uint64()) >> random.Intn(64)
		}
		checkTimes(t, times)
		slices.Sort(times)
		checkTimes(t, times)
	}
}

// TestDecodeOfChangedBytes turns single bits of times' bytes.
func TestDecodeOfChangedBytes(t *testing.T) {
	random := rand.New(rand.NewSource(2))
	for range 150 {
		times := someRow(random)
		b, _ := stamps(times[:min(len(times), 12)])
		for bit := range 8 * len(b) {
			changed := bytes.Clone(b)
			changed[bit/8] ^= 128 >> (bit % 8)
			checkBytes(t, changed)
		}
	}
}

func TestDecodeOfAnything(t *testing.T) {
	random := rand.New(rand.NewSource(3))
	for range 100000 {
		b := head(byte(random.Intn(3)), random.Intn(6), int64(random.Uint64())>>random.Intn(64))
		for range random.Intn(4) {
			b = binary.BigEndian.AppendUint64(b, random.Uint64()>>random.Intn(64))
		}
		checkBytes(t, b[:len(b)-random.Intn(8)*(random.Intn(8)/7)])
	}
}

// TestArgumentsStay: what is handed in isn't changed, nor its spare room, and no answer hangs on it later.
func TestArgumentsStay(t *testing.T) {
	for _, times := range someTimes() {
		want, _ := stamps(times)
		room := slices.Concat([]int64{9, 8}, times, []int64{7, 6, 5})
		before := slices.Clone(room)
		b, _ := stamp.Encode(room[2 : 2+len(times)])
		if !slices.Equal(room, before) {
			t.Errorf("the times are %s now", short(room))
		}
		clear(room)
		if !bytes.Equal(b, want) {
			t.Errorf("the answer is %s now", short(b))
		}
		bytesRoom := slices.Concat([]byte{9, 9}, want, []byte{9, 9, 9})
		bytesBefore := bytes.Clone(bytesRoom)
		got, _ := stamp.Decode(bytesRoom[2 : 2+len(want)])
		if !bytes.Equal(bytesRoom, bytesBefore) {
			t.Errorf("the bytes are %s now", short(bytesRoom))
		}
		clear(bytesRoom)
		if !slices.Equal(got, times) {
			t.Errorf("the answer is %s now", short(got))
		}
	}
}

// TestAnswersAreNew: each answer has its own memory, its spare room too.
func TestAnswersAreNew(t *testing.T) {
	for _, times := range someTimes() {
		want, _ := stamps(times)
		first, _ := stamp.Encode(times)
		second, _ := stamp.Encode(times)
		all := first[:cap(first)]
		for i := range all {
			all[i] = 0xaa
		}
		own, _ := stamp.Decode(want)
		others, _ := stamp.Decode(want)
		room := own[:cap(own)]
		for i := range room {
			room[i] = -1
		}
		if !bytes.Equal(second, want) || !slices.Equal(others, times) {
			t.Errorf("two answers of %s share memory", short(times))
		}
		checkTimes(t, times)
	}
}

func FuzzDecode(f *testing.F) {
	for _, times := range someTimes() {
		b, _ := stamps(times)
		f.Add(b)
	}
	f.Add([]byte{})
	f.Add(head(1, 0, 5))
	f.Add(append(head(2, 4, 0), 0x50, 0, 0, 0, 0, 0, 0x10, 0x94))
	f.Fuzz(checkBytes)
}
