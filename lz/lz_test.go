package lz_test

import (
	"bytes"
	"fmt"
	"math"
	"math/rand"
	"slices"
	"strings"
	"testing"

	"grist/api"
	"grist/lz"
)

const far = 65535 // the greatest distance

// own is the pieces of bytes that stand for themselves.
func own(b string) string {
	var pieces strings.Builder
	for len(b) > 0 {
		n := min(len(b), 127)
		pieces.WriteByte(byte(n))
		pieces.WriteString(b[:n])
		b = b[n:]
	}
	return pieces.String()
}

// copied is the piece of a copy.
func copied(length, distance int) string {
	return string([]byte{byte(124 + length), byte(distance / 256), byte(distance % 256)})
}

// latest is the latest place ahead of at with the same four bytes, as far as a distance reaches; -1, if there is none.
func latest(b []byte, at int) int {
	if at+4 > len(b) {
		return -1
	}
	least := max(0, at-far)
	from := bytes.LastIndex(b[least:at+3], b[at:at+4])
	if from < 0 {
		return -1
	}
	return least + from
}

// packed is b packed, as the document tells it: what Pack is held against.
func packed(b []byte) []byte {
	var pieces strings.Builder
	begin := 0
	for at := 0; at < len(b); {
		from := latest(b, at)
		if from < 0 {
			at++
			continue
		}
		length := 4
		for length < 131 && at+length < len(b) && b[from+length] == b[at+length] {
			length++
		}
		pieces.WriteString(own(string(b[begin:at])) + copied(length, at-from))
		at += length
		begin = at
	}
	pieces.WriteString(own(string(b[begin:])))
	return []byte(pieces.String())
}

// unpacked is what b stands for, as the document tells it: what Unpack is held against.
func unpacked(b []byte, most int) ([]byte, api.Errno) {
	var all []byte
	for at := 0; at < len(b); {
		head := int(b[at])
		var piece []byte
		switch {
		case head == 0:
			return nil, api.ErrForm
		case head < 128:
			if at+head >= len(b) {
				return nil, api.ErrForm
			}
			piece = b[at+1 : at+1+head]
			at += 1 + head
		default:
			if at+2 >= len(b) {
				return nil, api.ErrForm
			}
			distance := 256*int(b[at+1]) + int(b[at+2])
			if distance == 0 || distance > len(all) {
				return nil, api.ErrForm
			}
			// What a copy repeats are the last bytes, again and again.
			piece = bytes.Repeat(all[len(all)-distance:], (head-124)/distance+1)[:head-124]
			at += 3
		}
		if len(all)+len(piece) > most {
			return nil, api.ErrLong
		}
		all = append(all, piece...)
	}
	return all, api.OK
}

// told is bytes in few words, however many they are.
func told(b []byte) string {
	text := fmt.Sprintf("%x", b)
	if len(text) > 300 {
		text = text[:300] + " and so on"
	}
	return text
}

func checkUnpack(t *testing.T, b []byte, most int, want []byte) {
	t.Helper()
	got, e := lz.Unpack(b, most)
	if e != api.OK || !bytes.Equal(got, want) {
		t.Fatalf("Unpack(%s, %d): %s, %v, not %s", told(b), most, told(got), e, told(want))
	}
}

func checkError(t *testing.T, b []byte, most int, want api.Errno) {
	t.Helper()
	got, e := lz.Unpack(b, most)
	if e != want || len(got) != 0 {
		t.Fatalf("Unpack(%s, %d): %s, %v, not %v", told(b), most, told(got), e, want)
	}
}

// checkPack: b is packed like that, and back; one byte fewer is too few for it.
func checkPack(t *testing.T, b, want []byte) {
	t.Helper()
	before := bytes.Clone(b)
	if got := lz.Pack(b); !bytes.Equal(got, want) {
		t.Fatalf("Pack(%s): %s, not %s", told(b), told(got), told(want))
	}
	if !bytes.Equal(b, before) {
		t.Fatalf("Pack(%s) made %s of it", told(before), told(b))
	}
	checkUnpack(t, want, len(b), b)
	checkUnpack(t, want, math.MaxInt, b)
	if len(b) > 0 {
		checkError(t, want, len(b)-1, api.ErrLong)
	}
}

// checkBytes holds Pack, and Unpack of what it made, against the document's words.
func checkBytes(t *testing.T, b []byte) {
	t.Helper()
	checkPack(t, b, packed(b))
}

// checkAnything holds Unpack of whatever comes against the document's words.
func checkAnything(t *testing.T, b []byte, most int) {
	t.Helper()
	before := bytes.Clone(b)
	if want, e := unpacked(b, most); e == api.OK {
		checkUnpack(t, b, most, want)
	} else {
		checkError(t, b, most, e)
	}
	if !bytes.Equal(b, before) {
		t.Fatalf("Unpack(%s) made %s of it", told(before), told(b))
	}
}

// distinct is n bytes in which no four come twice: one stride of 256 bytes behind the other, each by its own odd number.
func distinct(n int) string {
	b := make([]byte, n)
	for i := range b {
		b[i] = byte(i * (i/256*2 + 1))
	}
	return string(b)
}

func TestPieces(t *testing.T) {
	for _, c := range []struct{ text, want string }{
		{"", ""},
		{"a", "\x01a"},
		{"\x00", "\x01\x00"},
		{"abc", "\x03abc"},
		{"aaaa", "\x04aaaa"},
		{"aaaaa", "\x01a\x80\x00\x01"},
		{"aaaaaa", "\x01a\x81\x00\x01"},
		{"aaaaaaaa", "\x01a\x83\x00\x01"},
		{"aaaaaaab", "\x01a\x82\x00\x01\x01b"},
		{"\x00\x00\x00\x00\x00", "\x01\x00\x80\x00\x01"},
		{"abababab", "\x02ab\x82\x00\x02"},
		{"abcabcabc", "\x03abc\x82\x00\x03"},
		{"abcdabc", "\x07abcdabc"},
		{"abcdabcd", "\x04abcd\x80\x00\x04"},
		{"abcdabcda", "\x04abcd\x81\x00\x04"},
		{"abcdabcdabcdX", "\x04abcd\x84\x00\x04\x01X"},
		// Three bytes alike are too few, wherever they stand.
		{"abc1abc2abc3", "\x0cabc1abc2abc3"},
		{"abcdXabcYabcd", "\x09abcdXabcY\x80\x00\x09"},
		{"abcdeabcdf", "\x05abcde\x80\x00\x05\x01f"},
		// The latest place, though an earlier one is alike farther on.
		{"abcd1abcd2abcd1", "\x05abcd1\x80\x00\x05\x012\x80\x00\x05\x011"},
		{"abcdefgh1abcd2abcdefgh", "\x09abcdefgh1\x80\x00\x09\x012\x80\x00\x05\x80\x00\x0e"},
		// The latest place may stand inside of a copy, or behind its beginning.
		{"abcdefXabcdefYcdef", "\x07abcdefX\x82\x00\x07\x01Y\x80\x00\x05"},
		{"abcdXabcdYcdYabcd", "\x05abcdX\x80\x00\x05\x04YcdY\x80\x00\x08"},
		{"abcdXabcdYZcdYZ", "\x05abcdX\x80\x00\x05\x02YZ\x80\x00\x04"},
		// The first place that has one ahead, though the next one would have a longer one.
		{"abcdZbcdefghYabcdefgh", "\x0dabcdZbcdefghY\x80\x00\x0d\x80\x00\x09"},
		// A copy right behind a copy.
		{"abcdWefghXabcdefgh", "\x0aabcdWefghX\x80\x00\x0a\x80\x00\x09"},
		{"\xff\xfe\xfd\xfc\xff\xfe\xfd\xfc", "\x04\xff\xfe\xfd\xfc\x80\x00\x04"},
	} {
		checkPack(t, []byte(c.text), []byte(c.want))
		if !bytes.Equal(packed([]byte(c.text)), []byte(c.want)) {
			t.Errorf("the tests' own reading of %q is another", c.text)
		}
	}
}

// TestOwn: bytes that stand for themselves are in pieces of 127, and the rest.
func TestOwn(t *testing.T) {
	for n := range 700 {
		text := distinct(n)
		want := own(text)
		if len(want) != n+(n+126)/127 {
			t.Fatalf("%d bytes are in %d", n, len(want))
		}
		checkPack(t, []byte(text), []byte(want))
	}
	for _, c := range []struct {
		n     int
		heads []byte
	}{{126, []byte{126}}, {127, []byte{127}}, {128, []byte{127, 1}}, {254, []byte{127, 127}}, {255, []byte{127, 127, 1}}, {381, []byte{127, 127, 127}}} {
		b := lz.Pack([]byte(distinct(c.n)))
		for i, head := range c.heads {
			if b[128*i] != head {
				t.Errorf("%d bytes: the piece %d has %d", c.n, i, b[128*i])
			}
		}
	}
	// Ahead of a copy, and behind it, they are counted anew.
	for _, n := range []int{4, 126, 127, 128, 200, 254, 255, 300} {
		for _, more := range []int{0, 1, 126, 127, 128, 255} {
			text := distinct(n + 300)[:n]
			rest := distinct(1300 + more)[1300:] // of other strides than the text's
			checkPack(t, []byte(text+text[:4]+rest), []byte(own(text)+copied(4, n)+own(rest)))
		}
	}
}

// TestLengths: a copy has 4 to 131 bytes, and what is left over is one more, or stands for itself.
func TestLengths(t *testing.T) {
	for n := 1; n <= 700; n++ {
		want, left := own("x"), n-1
		for left >= 4 {
			want += copied(min(left, 131), 1)
			left -= min(left, 131)
		}
		if want == own("x") {
			want = own(strings.Repeat("x", n))
		} else {
			want += own(strings.Repeat("x", left))
		}
		checkPack(t, bytes.Repeat([]byte("x"), n), []byte(want))
	}
	text := distinct(500)
	for n := range 300 {
		want, left := own(text), n
		for left >= 4 {
			want += copied(min(left, 131), len(text))
			left -= min(left, 131)
		}
		if want == own(text) {
			want = own(text + text[:n])
		} else {
			want += own(text[n-left : n])
		}
		checkPack(t, []byte(text+text[:n]), []byte(want))
	}
	// A period that a copy is longer than, or not.
	for period := 1; period <= 140; period++ {
		for _, n := range []int{period + 3, period + 4, 2*period + 4, 131, 132, 262 + period, 600} {
			text := strings.Repeat(distinct(period), n/period+1)[:n]
			checkBytes(t, []byte(text))
		}
	}
}

// TestDistances: a place is at most 65535 ahead, wherever it stands.
func TestDistances(t *testing.T) {
	for _, ahead := range []int{0, 1, 2, 65531, 65532, 65533, 65534, 65535, 65536, 65537, 131071, 131072, 131073} {
		text := strings.Repeat("y", ahead) + "abcd"
		for _, distance := range []int{4, 5, 255, 256, 257, 32767, 32768, 65533, 65534, 65535, 65536, 65537, 70000, 131071, 131072, 131073} {
			whole := []byte(text + strings.Repeat("x", distance-4) + "abcd")
			checkBytes(t, whole)
			end := "abcd"
			if distance <= far {
				end = copied(4, distance)
			}
			if got := lz.Pack(whole); !bytes.HasSuffix(got, []byte(end)) {
				t.Errorf("%d bytes, and four %d ahead: %s", len(whole), distance, told(got[len(got)-6:]))
			}
		}
	}
	// A nearer place, beside one that is too far or just not.
	for _, near := range []int{4, 100, 60000} {
		for _, distance := range []int{65534, 65535, 65536, 65537} {
			whole := []byte("abcd" + strings.Repeat("x", distance-near-4) + "abcd" + strings.Repeat("z", near-4) + "abcd")
			checkBytes(t, whole)
			if got := lz.Pack(whole); !bytes.HasSuffix(got, []byte(copied(4, near))) {
				t.Errorf("four %d ahead, and %d: %s", near, distance, told(got[len(got)-6:]))
			}
		}
	}
	// A place that a copy begins with is forgotten no sooner than the others of it.
	line := distinct(300)
	for _, distance := range []int{65530, 65534, 65535, 65536, 65540, 65700} {
		checkBytes(t, []byte(line+strings.Repeat("x", distance-300)+line+line[100:250]))
	}
}

// TestEachShortText has all texts of few letters.
func TestEachShortText(t *testing.T) {
	for _, c := range []struct{ letters, most int }{{1, 300}, {2, 13}, {3, 9}, {5, 6}} {
		texts := [][]byte{{}}
		for range c.most {
			var longer [][]byte
			for _, text := range texts {
				checkBytes(t, text)
				for letter := range c.letters {
					longer = append(longer, append(bytes.Clone(text), byte(letter)))
				}
			}
			texts = longer
		}
	}
}

// someBytes are as the random numbers have it: of few letters or many, with pieces of what is ahead, or long runs.
func someBytes(random *rand.Rand, most int) []byte {
	n, letters := random.Intn(most), 1<<random.Intn(9)
	var b []byte
	for len(b) < n {
		switch random.Intn(4) {
		case 0:
			from := random.Intn(len(b) + 1)
			b = append(b, b[from:from+random.Intn(min(len(b)-from, 400)+1)]...)
		case 1:
			b = append(b, bytes.Repeat([]byte{byte(random.Intn(letters))}, random.Intn(300))...)
		default:
			for range random.Intn(30) {
				b = append(b, byte(random.Intn(letters)))
			}
		}
	}
	return b
}

func TestThereAndBack(t *testing.T) {
	random := rand.New(rand.NewSource(1))
	for range 3000 {
		checkBytes(t, someBytes(random, 300))
	}
	for range 60 {
		checkBytes(t, someBytes(random, 10000))
	}
	for range 3 {
		checkBytes(t, someBytes(random, 300000))
	}
	// As many as a column of strings has, of all sorts.
	const many = 1 << 22
	noise := make([]byte, many)
	for i := range noise {
		noise[i] = byte(random.Intn(256))
	}
	for _, b := range [][]byte{noise, make([]byte, many), bytes.Repeat([]byte("host=a,region=west value=1 17\n"), many/30)} {
		p := lz.Pack(b)
		checkUnpack(t, p, len(b), b)
		checkError(t, p, len(b)-1, api.ErrLong)
	}
}

// unlike is n bytes in which no four come twice.
func unlike(n int) []byte {
	random := rand.New(rand.NewSource(4))
	seen := map[[4]byte]bool{}
	var b []byte
	for len(b) < n {
		b = append(b, byte(random.Intn(256)))
		if len(b) < 4 {
			continue
		}
		last := [4]byte(b[len(b)-4:])
		if seen[last] {
			b = b[:len(b)-1]
			continue
		}
		seen[last] = true
	}
	return b
}

// TestAlways: what comes again and again is reached from every place, if it is 65535 ahead, and from none, if it is farther.
func TestAlways(t *testing.T) {
	for _, n := range []int{60000, far - 1, far, far + 1, far + 2, 70000, 2*far + 2} {
		b := unlike(n)
		whole := bytes.Repeat(b, 1<<22/n)
		if n > far {
			checkPack(t, whole, []byte(own(string(whole))))
			continue
		}
		var want strings.Builder
		want.WriteString(own(string(b)))
		left := len(whole) - n
		for ; left >= 4; left -= min(left, 131) {
			want.WriteString(copied(min(left, 131), n))
		}
		want.WriteString(own(string(whole[len(whole)-left:])))
		checkPack(t, whole, []byte(want.String()))
	}
}

// TestUnpackOther: packed bytes needn't be those that Pack makes.
func TestUnpackOther(t *testing.T) {
	for _, c := range []struct{ packed, want string }{
		{"", ""},
		{"\x01a\x01b", "ab"},
		{"\x01a\x01a\x01a\x01a\x01a", "aaaaa"},
		{"\x05aaaaa", "aaaaa"},
		{"\x01a\x80\x00\x01\x80\x00\x05", "aaaaaaaaa"},
		{"\x02aa\x80\x00\x02", "aaaaaa"},
		{"\x02ab\x80\x00\x01", "abbbbb"},
		{"\x03abc\x80\x00\x03\x80\x00\x01", "abcabcaaaaa"},
		{"\x04abcd\x04abcd", "abcdabcd"},
		{"\x08abcdabcd\x80\x00\x08", "abcdabcdabcd"},
		{"\x03abc\xff\x00\x02", "abc" + strings.Repeat("bc", 65) + "b"},
		{"\x01\x00\xff\x00\x01", strings.Repeat("\x00", 132)},
		{"\x7f" + distinct(127) + "\x7f" + distinct(127), distinct(127) + distinct(127)},
		{own(distinct(256)) + "\x80\x01\x00", distinct(256) + distinct(4)},
		{own(distinct(600)) + "\xff\x02\x58\x81\x01\x02", distinct(600) + distinct(131) + distinct(478)[473:]},
	} {
		checkUnpack(t, []byte(c.packed), len(c.want), []byte(c.want))
		checkUnpack(t, []byte(c.packed), len(c.want)+1, []byte(c.want))
		checkUnpack(t, []byte(c.packed), math.MaxInt, []byte(c.want))
		if len(c.want) > 0 {
			checkError(t, []byte(c.packed), len(c.want)-1, api.ErrLong)
		}
	}
	// As far as a distance reaches, from each place on.
	long := strings.Repeat("abcdefg", 10000)
	for _, n := range []int{far, far + 1, len(long)} {
		checkUnpack(t, []byte(own(long[:n])+"\x80\xff\xff"), n+4, []byte(long[:n]+long[n-far:n-far+4]))
	}
	checkError(t, []byte(own(long[:far-1])+"\x80\xff\xff"), math.MaxInt, api.ErrForm)
}

func TestUnpackRefuses(t *testing.T) {
	for _, b := range []string{
		// A byte 0.
		"\x00", "\x00\x00", "\x00a", "\x01a\x00", "\x01a\x00b", "\x01a\x80\x00\x01\x00", "\x00\x01a",
		// Too few bytes.
		"\x01", "\x02a", "\x03ab", "\x7f", "\x7f" + distinct(126), "\x01a\x02b", "\x80", "\x80\x00", "\xff", "\x01a\x80", "\x01a\x80\x00", "\x01a\xff\x00", "\x01a\x80\x00\x01\x80\x00", "\x01a\x80\x00\x01\x01",
		// A distance that reaches ahead of the beginning.
		"\x80\x00\x01", "\xff\x00\x01", "\x80\xff\xff", "\x01a\x80\x00\x02", "\x01a\x80\x01\x00", "\x01a\x80\x01\x01", "\x02ab\x80\x00\x03", "\x01a\x80\x00\x01\x80\x00\x06", "\x01a\x80\xff\xff", own(distinct(255)) + "\x80\x01\x00",
		// A distance of 0.
		"\x80\x00\x00", "\x01a\x80\x00\x00", "\x01a\xff\x00\x00", "\x01a\x80\x00\x01\x80\x00\x00",
	} {
		checkError(t, []byte(b), math.MaxInt, api.ErrForm)
		checkError(t, []byte(b), 1000, api.ErrForm)
	}
	// Each distance, behind so many bytes.
	for n := 1; n <= 300; n++ {
		b := []byte(own(distinct(n)))
		for distance := range 303 {
			checkAnything(t, append(bytes.Clone(b), copied(4, distance)...), math.MaxInt)
			if distance < 1 || distance > n {
				checkError(t, append(bytes.Clone(b), copied(131, distance)...), math.MaxInt, api.ErrForm)
			}
		}
	}
}

// TestMost: ErrLong by the pieces' bytes, ErrForm by their form: the first piece that has a fault, and of one piece ErrForm first.
func TestMost(t *testing.T) {
	for _, c := range []struct {
		packed string
		most   int
		want   api.Errno
	}{
		{"\x01a", 1, api.OK}, {"\x01a", 0, api.ErrLong}, {"\x01a", -1, api.ErrLong}, {"\x01a", math.MinInt, api.ErrLong}, {"\x7f" + distinct(127), 127, api.OK}, {"\x7f" + distinct(127), 126, api.ErrLong},
		{"\x01a\x80\x00\x01", 5, api.OK}, {"\x01a\x80\x00\x01", 4, api.ErrLong}, {"\x01a\x80\x00\x01", 1, api.ErrLong}, {"\x01a\xff\x00\x01", 132, api.OK}, {"\x01a\xff\x00\x01", 131, api.ErrLong},
		// A piece that is too long, with a fault in a later one.
		{"\x02ab\x00", 1, api.ErrLong}, {"\x02ab\x00", 2, api.ErrForm}, {"\x02ab\x03a", 1, api.ErrLong}, {"\x02ab\x03a", 2, api.ErrForm}, {"\x02ab\x80\x00\x03", 1, api.ErrLong}, {"\x02ab\x80\x00\x03", 2, api.ErrForm},
		{"\x01a\x80\x00\x01\x00", 4, api.ErrLong}, {"\x01a\x80\x00\x01\x00", 5, api.ErrForm}, {"\x01a\x84\x00\x01\x00", 8, api.ErrLong}, {"\x01a\x80\x00\x01\x80\x00", 4, api.ErrLong}, {"\x01a\x80\x00\x01\x80\x00", 5, api.ErrForm},
		// One piece with both faults.
		{"\x02a", 0, api.ErrForm}, {"\x02a", 1, api.ErrForm}, {"\x02a", -1, api.ErrForm}, {"\x00", 0, api.ErrForm}, {"\x00", -1, api.ErrForm}, {"\x00", math.MinInt, api.ErrForm}, {"\x80\x00\x01", 0, api.ErrForm}, {"\x80\x00", -1, api.ErrForm},
		{"\x01a\x80\x00\x02", 1, api.ErrForm}, {"\x01a\x80\x00\x02", 4, api.ErrForm}, {"\x01a\x80\x00\x00", 1, api.ErrForm}, {"\x01a\x80\x00", 1, api.ErrForm}, {"\x01a\x05bcd", 3, api.ErrForm},
		// A fault ahead of a piece that is too long.
		{"\x01a\x00\x7f" + distinct(127), 1, api.ErrForm}, {"\x01a\x80\x00\x02\x05abcde", 6, api.ErrForm},
		// No bytes have no piece.
		{"", 0, api.OK}, {"", 1, api.OK}, {"", -1, api.OK}, {"", math.MinInt, api.OK}, {"", math.MaxInt, api.OK},
	} {
		if got, e := lz.Unpack([]byte(c.packed), c.most); e != c.want || e != api.OK && len(got) != 0 {
			t.Errorf("Unpack(%q, %d): %s, %v, not %v", c.packed, c.most, told(got), e, c.want)
		}
		checkAnything(t, []byte(c.packed), c.most)
	}
	checkUnpack(t, nil, -1, nil)
	// A few bytes that stand for many are refused as soon as they are too many.
	long := []byte("\x01a" + strings.Repeat("\xff\x00\x01", 1<<16))
	for _, most := range []int{-1, 0, 1, 131, 132, 1000, 131 << 16} {
		checkError(t, long, most, api.ErrLong)
	}
	if got, e := lz.Unpack(long, 131<<16+1); e != api.OK || len(got) != 131<<16+1 || bytes.Count(got, []byte("a")) != len(got) {
		t.Errorf("%d bytes, %v", len(got), e)
	}
}

// TestUnpackOfAnything: whatever bytes come, and whatever most.
func TestUnpackOfAnything(t *testing.T) {
	for first := range 256 {
		checkAnything(t, []byte{byte(first)}, 5)
		for second := range 256 {
			checkAnything(t, []byte{byte(first), byte(second)}, 5)
			checkAnything(t, []byte{1, byte(first), byte(second)}, 5)
			checkAnything(t, []byte{1, 7, byte(first), 0, byte(second)}, 5+second)
			checkAnything(t, []byte{1, 7, byte(first), byte(second), 1}, 132)
		}
	}
	random := rand.New(rand.NewSource(2))
	small := []byte{0, 1, 2, 3, 4, 126, 127, 128, 129, 130, 254, 255}
	for range 300000 {
		b := make([]byte, random.Intn(12))
		for i := range b {
			b[i] = small[random.Intn([]int{4, len(small)}[random.Intn(2)])]
		}
		checkAnything(t, b, random.Intn(400)-2)
	}
}

// TestUnpackOfChangedBytes cuts what Pack made, and turns single bits of it.
func TestUnpackOfChangedBytes(t *testing.T) {
	random := rand.New(rand.NewSource(3))
	for range 150 {
		b := someBytes(random, 300)
		p := lz.Pack(b)
		for n := range p {
			checkAnything(t, p[:n], len(b))
			checkAnything(t, p[n:], len(b))
		}
		for bit := range 8 * len(p) {
			changed := bytes.Clone(p)
			changed[bit/8] ^= 128 >> (bit % 8)
			checkAnything(t, changed, len(b))
			checkAnything(t, changed, 10*len(b))
		}
		checkUnpack(t, slices.Concat(p, p), 2*len(b), slices.Concat(b, b))
		checkError(t, append(bytes.Clone(p), 0), len(b), api.ErrForm)
	}
}

// someTexts are texts of all sorts of pieces.
func someTexts() []string {
	return []string{"", "a", "abc", "aaaaaaaa", "abcdeabcdf", distinct(127), distinct(300), strings.Repeat("x", 300), strings.Repeat("abcde", 100), distinct(200) + distinct(200)}
}

// fillRoom overwrites an answer, its spare room too.
func fillRoom(b []byte) {
	b = b[:cap(b)]
	for i := range b {
		b[i] = 0xaa
	}
}

// TestArgumentsStay: what is handed in isn't changed, nor its spare room, and no answer hangs on it later.
func TestArgumentsStay(t *testing.T) {
	for _, text := range someTexts() {
		want := packed([]byte(text))
		room := []byte("98" + text + "7654321")
		p := lz.Pack(room[2 : 2+len(text)])
		if string(room) != "98"+text+"7654321" {
			t.Errorf("the bytes are %s now", told(room))
		}
		fillRoom(room)
		if !bytes.Equal(p, want) {
			t.Errorf("the answer is %s now", told(p))
		}
		room = slices.Concat([]byte("98"), want, []byte("7654321"))
		before := bytes.Clone(room)
		b, _ := lz.Unpack(room[2:2+len(want)], len(text))
		if !bytes.Equal(room, before) {
			t.Errorf("the packed bytes are %s now", told(room))
		}
		fillRoom(room)
		if string(b) != text {
			t.Errorf("the answer is %s now", told(b))
		}
	}
}

// TestAnswersAreNew: each answer has its own memory, its spare room too, and no call leaves a mark for the next one.
func TestAnswersAreNew(t *testing.T) {
	for _, text := range someTexts() {
		b := []byte(text)
		want := packed(b)
		first, second := lz.Pack(b), lz.Pack(b)
		fillRoom(first)
		own, _ := lz.Unpack(want, len(b))
		others, _ := lz.Unpack(want, len(b))
		fillRoom(own)
		if !bytes.Equal(second, want) || string(others) != text {
			t.Errorf("two answers of %q share memory", text)
		}
		if string(b) != text || !bytes.Equal(want, packed(b)) {
			t.Errorf("an answer of %q shares memory with it", text)
		}
		checkPack(t, b, want)
	}
}

func FuzzPack(f *testing.F) {
	for _, text := range someTexts() {
		f.Add([]byte(text))
	}
	f.Fuzz(checkBytes)
}

func FuzzUnpack(f *testing.F) {
	for _, text := range someTexts() {
		f.Add(packed([]byte(text)), len(text))
	}
	f.Add([]byte("\x02aa\x80\x00\x02"), 6)
	f.Add([]byte("\x01a\x80\x00\x02\x05abcde"), 6)
	f.Add([]byte("\x00"), -1)
	f.Fuzz(checkAnything)
}
