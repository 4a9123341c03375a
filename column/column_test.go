package column_test

import (
	"bytes"
	"encoding/binary"
	"fmt"
	"math"
	"math/big"
	"math/rand"
	"slices"
	"strconv"
	"strings"
	"testing"

	"grist/api"
	"grist/column"
	"grist/lz"
	"grist/pack"
)

const (
	least     = math.MinInt64
	most      = math.MaxInt64
	mostTexts = 1 << 22
)

var kinds = []int{api.Float, api.Integer, api.Boolean, api.String}

// digits is bytes as the digits of their bits.
func digits(b []byte) string {
	var text strings.Builder
	for _, c := range b {
		fmt.Fprintf(&text, "%08b", c)
	}
	return text.String()
}

// filled are the bytes of a text of digits, the last one filled up.
func filled(text string) []byte {
	text += strings.Repeat("0", (8-len(text)%8)%8)
	b := []byte{}
	for ; text != ""; text = text[8:] {
		c, _ := strconv.ParseUint(text[:8], 2, 8)
		b = append(b, byte(c))
	}
	return b
}

// floatBytes is the bytes of floats, by texts of digits.
func floatBytes(values []api.Value) []byte {
	var text strings.Builder
	fmt.Fprintf(&text, "%064b", values[0].Bits)
	for i := 1; i < len(values); i++ {
		x := fmt.Sprintf("%064b", values[i].Bits^values[i-1].Bits)
		span := strings.Trim(x, "0")
		if span == "" {
			text.WriteString("0")
			continue
		}
		fmt.Fprintf(&text, "1%06b%06b%s", strings.Index(x, "1"), len(span)-1, span)
	}
	return filled(text.String())
}

// steps are what is packed of integers, by exact numbers.
func steps(values []api.Value) []uint64 {
	all := new(big.Int).Lsh(big.NewInt(1), 64)
	ahead := new(big.Int)
	var list []uint64
	for _, v := range values {
		here := big.NewInt(int64(v.Bits))
		step := new(big.Int).Sub(here, ahead)
		step.Mod(step, all)
		if !step.IsInt64() {
			step.Sub(step, all)
		}
		if step.Sign() >= 0 {
			step.Mul(step, big.NewInt(2))
		} else {
			step.Mul(step, big.NewInt(-2))
			step.Sub(step, big.NewInt(1))
		}
		list = append(list, step.Uint64())
		ahead = here
	}
	return list
}

// plainBytes is the bytes of integers that are not packed.
func plainBytes(values []api.Value) []byte {
	b := []byte{0}
	for _, v := range values {
		b = binary.BigEndian.AppendUint64(b, v.Bits)
	}
	return b
}

// packedBytes is the bytes of integers that are packed.
func packedBytes(values []api.Value) []byte {
	words, e := pack.Pack(steps(values))
	if e != api.OK {
		panic(fmt.Sprint("too far to be packed: ", values))
	}
	return append([]byte{1}, words...)
}

// laid is strings behind their lengths.
func laid(values []api.Value) []byte {
	var b []byte
	for _, v := range values {
		b = binary.AppendUvarint(b, uint64(len(v.Text)))
		b = append(b, v.Text...)
	}
	return b
}

// columnBytes is the bytes of formed values of one Kind, as the document tells them: what Encode is held against.
func columnBytes(values []api.Value) ([]byte, api.Errno) {
	switch values[0].Kind {
	case api.Float:
		return floatBytes(values), api.OK
	case api.Integer:
		if slices.Max(steps(values)) < 1<<60 {
			return packedBytes(values), api.OK
		}
		return plainBytes(values), api.OK
	case api.Boolean:
		text := ""
		for _, v := range values {
			text += strconv.FormatUint(v.Bits, 10)
		}
		return filled(text), api.OK
	}
	b := laid(values)
	if len(b) > mostTexts {
		return nil, api.ErrLong
	}
	if packed := lz.Pack(b); len(packed) < len(b) {
		return append([]byte{1}, packed...), api.OK
	}
	return append([]byte{0}, b...), api.OK
}

func formed(v api.Value) bool {
	f := math.Float64frombits(v.Bits)
	switch v.Kind {
	case api.Float:
		return v.Text == "" && f-f == 0
	case api.Integer:
		return v.Text == ""
	case api.Boolean:
		return v.Text == "" && v.Bits < 2
	}
	return v.Kind == api.String && v.Bits == 0 && len(v.Text) <= 65536
}

// encoded is the answer of Encode, as the document tells it.
func encoded(values []api.Value) ([]byte, api.Errno) {
	if len(values) == 0 || len(values) > 1000 {
		return nil, api.ErrArg
	}
	for _, v := range values {
		if !formed(v) {
			return nil, api.ErrArg
		}
	}
	for _, v := range values {
		if v.Kind != values[0].Kind {
			return nil, api.ErrType
		}
	}
	return columnBytes(values)
}

// toldFloats are the floats that stand in digits; none, where they don't.
func toldFloats(n int, text string) []api.Value {
	take := func(n int) (uint64, bool) {
		if n > len(text) {
			return 0, false
		}
		v, e := strconv.ParseUint(text[:n], 2, 64)
		text = text[n:]
		return v, e == nil
	}
	here, ok := take(64)
	values := list(api.Float, here)
	for ok && len(values) < n {
		var one, zeros, span, x uint64
		one, ok = take(1)
		if one == 1 {
			zeros, _ = take(6)
			span, ok = take(6)
			if zeros+span+1 > 64 || !ok {
				return nil
			}
			x, ok = take(int(span) + 1)
			here ^= x << (64 - zeros - span - 1)
		}
		values = append(values, list(api.Float, here)...)
	}
	if !ok {
		return nil
	}
	return values
}

func toldIntegers(n int, b []byte) []api.Value {
	var values []api.Value
	if len(b) == 1+8*n && b[0] == 0 {
		for i := range n {
			values = append(values, list(api.Integer, binary.BigEndian.Uint64(b[1+8*i:]))...)
		}
	}
	if len(b) > 0 && b[0] == 1 {
		numbers, _ := pack.Unpack(b[1:], n)
		var at uint64
		for _, step := range numbers {
			if step%2 == 0 {
				at += step / 2
			} else {
				at -= step/2 + 1
			}
			values = append(values, list(api.Integer, at)...)
		}
	}
	return values
}

func toldStrings(n int, b []byte) []api.Value {
	var values []api.Value
	if len(b) == 0 {
		return nil
	}
	texts := b[1:]
	if b[0] == 1 {
		texts, _ = lz.Unpack(texts, mostTexts)
	}
	for len(values) < n {
		length, size := binary.Uvarint(texts)
		if size <= 0 || length > uint64(len(texts)-size) {
			return nil
		}
		values = append(values, api.Value{Kind: api.String, Text: string(texts[size : size+int(length)])})
		texts = texts[size+int(length):]
	}
	return values
}

// told are the values that b says, whether or not it says too much, or otherwise than their bytes.
func told(kind, n int, b []byte) []api.Value {
	if n < 1 || n > 1000 {
		return nil
	}
	switch kind {
	case api.Float:
		return toldFloats(n, digits(b))
	case api.Integer:
		return toldIntegers(n, b)
	case api.Boolean:
		var values []api.Value
		for i, digit := range digits(b) {
			if i < n {
				values = append(values, list(api.Boolean, uint64(digit-'0'))...)
			}
		}
		return values
	case api.String:
		return toldStrings(n, b)
	}
	return nil
}

// list is values of one Kind.
func list(kind int, numbers ...uint64) []api.Value {
	var values []api.Value
	for _, n := range numbers {
		values = append(values, api.Value{Kind: kind, Bits: n})
	}
	return values
}

func integers(numbers ...int64) []api.Value {
	var values []api.Value
	for _, n := range numbers {
		values = append(values, list(api.Integer, uint64(n))...)
	}
	return values
}

func floats(numbers ...float64) []api.Value {
	var values []api.Value
	for _, n := range numbers {
		values = append(values, list(api.Float, math.Float64bits(n))...)
	}
	return values
}

func texts(list ...string) []api.Value {
	var values []api.Value
	for _, text := range list {
		values = append(values, api.Value{Kind: api.String, Text: text})
	}
	return values
}

// short is some values or bytes in few words, however many they are.
func short(some any) string {
	text := fmt.Sprintf("%x", some)
	if len(text) > 300 {
		text = text[:300] + " and so on"
	}
	return text
}

func checkEncode(t *testing.T, values []api.Value, want []byte) {
	t.Helper()
	b, e := column.Encode(values)
	if e != api.OK || !bytes.Equal(b, want) {
		t.Fatalf("Encode(%s): %s, %v, not %s", short(values), short(b), e, short(want))
	}
}

// checkRefused: such values have no bytes.
func checkRefused(t *testing.T, values []api.Value, want api.Errno) {
	t.Helper()
	if b, e := column.Encode(values); e != want || len(b) != 0 {
		t.Fatalf("Encode(%s): %s, %v, not %v", short(values), short(b), e, want)
	}
}

func checkDecode(t *testing.T, b []byte, want []api.Value) {
	t.Helper()
	values, e := column.Decode(want[0].Kind, len(want), b)
	if e != api.OK || !slices.Equal(values, want) {
		t.Fatalf("Decode(%d, %d, %s): %s, %v, not %s", want[0].Kind, len(want), short(b), short(values), e, short(want))
	}
}

// checkNone: b is not the bytes of n values of that Kind.
func checkNone(t *testing.T, kind, n int, b []byte) {
	t.Helper()
	if values, e := column.Decode(kind, n, b); e != api.ErrForm || len(values) != 0 {
		t.Fatalf("Decode(%d, %d, %s): %s, %v, not ErrForm", kind, n, short(b), short(values), e)
	}
}

// checkBoth: the values have these bytes, and back.
func checkBoth(t *testing.T, values []api.Value, want []byte) {
	t.Helper()
	checkEncode(t, values, want)
	checkDecode(t, want, values)
}

// checkValues holds Encode, and Decode of what it made, of whatever values against the document's words of them.
func checkValues(t *testing.T, values []api.Value) {
	t.Helper()
	before := slices.Clone(values)
	if want, e := encoded(values); e == api.OK {
		checkBoth(t, values, want)
	} else {
		checkRefused(t, values, e)
	}
	if !slices.Equal(values, before) {
		t.Fatalf("Encode(%s) made %s of it", short(before), short(values))
	}
}

// checkBytes: whatever comes is the bytes of n values of that Kind, or ErrForm.
func checkBytes(t *testing.T, kind, n int, b []byte) {
	t.Helper()
	before := bytes.Clone(b)
	values := told(kind, n, b)
	if own, e := encoded(values); e == api.OK && len(values) == n && bytes.Equal(own, b) {
		checkDecode(t, b, values)
		checkEncode(t, values, b)
	} else {
		checkNone(t, kind, n, b)
	}
	if !bytes.Equal(b, before) {
		t.Fatalf("Decode(%d, %d, %s) made %s of it", kind, n, short(before), short(b))
	}
}

// distinct is n bytes in which no four come twice: one stride of 256 bytes behind the other, each by its own odd number.
func distinct(n int) string {
	b := make([]byte, n)
	for i := range b {
		b[i] = byte(i * (i/256*2 + 1))
	}
	return string(b)
}

// noise is n random bytes.
func noise(random *rand.Rand, n int) string {
	b := make([]byte, n)
	random.Read(b)
	return string(b)
}

// someColumns are values of each Kind, packed and not.
func someColumns() [][]api.Value {
	negative := math.Copysign(0, -1)
	return [][]api.Value{
		floats(1), floats(0), floats(negative), floats(0, negative, 0), floats(1, 1), floats(1, 1, 1, 2), floats(1.5, -2.25, 1e300, 5e-324, -math.MaxFloat64, math.MaxFloat64),
		list(api.Float, 0, 1<<63|1), slices.Repeat(floats(0.1), 9), slices.Repeat(floats(0.1, 0.3, 0.3), 20),
		integers(5), integers(5, 6), integers(0), integers(-1), integers(least), integers(most, least), integers(1, 1, 1, 1, 1, 1), integers(1<<58, -1<<58), integers(1<<59, 0), integers(3, -3, 1<<40),
		list(api.Boolean, 0), list(api.Boolean, 1), list(api.Boolean, 1, 0, 1), list(api.Boolean, 1, 1, 1, 1, 1, 1, 1, 1), list(api.Boolean, 0, 0, 0, 0, 0, 0, 0, 0, 1),
		texts(""), texts("", "", ""), texts("hi"), texts("abc", "", "\x00\xff\n"), texts("abcdabcdabcd", "", "abcdabcdabcd"), texts(strings.Repeat("x", 300)), texts(distinct(127), distinct(128)), slices.Repeat(texts("hello"), 30),
	}
}

func TestColumns(t *testing.T) {
	const nought = "\x00\x00\x00\x00\x00\x00\x00\x00"
	for _, c := range []struct {
		values []api.Value
		want   string
	}{
		{floats(0), nought},
		{floats(1), "\x3f\xf0\x00\x00\x00\x00\x00\x00"},
		{floats(math.Copysign(0, -1)), "\x80\x00\x00\x00\x00\x00\x00\x00"},
		{list(api.Float, 0x0123456789abcdef), "\x01\x23\x45\x67\x89\xab\xcd\xef"},
		// Alike: a bit 0 each.
		{floats(0, 0), nought + "\x00"},
		{slices.Repeat(floats(0), 9), nought + "\x00"},
		{slices.Repeat(floats(0), 10), nought + "\x00\x00"},
		// 1; 63: 111111; 1: 000000; 1.
		{list(api.Float, 0, 1), nought + "\xfe\x04"},
		// 1; 0: 000000; 1: 000000; 1.
		{list(api.Float, 0, 1<<63), nought + "\x80\x04"},
		// The same, then 0, and again the first one.
		{list(api.Float, 0, 1<<63, 1<<63, 0), nought + "\x80\x05\x00\x08"},
		// 1; 0: 000000; 64: 111111; 1 and 62 noughts and 1.
		{list(api.Float, 0, 1<<63|1), nought + "\x81\xfc\x00\x00\x00\x00\x00\x00\x00\x08"},
		// 1; 60: 111100; 3: 000010; 101.
		{list(api.Float, 0, 10), nought + "\xf8\x15"},
		// From 1 to 2: bits 3ff0.. xor 4000..: 7ff0..: 1; 1: 000001; 11: 001010; 11111111111.
		{floats(1, 2), "\x3f\xf0\x00\x00\x00\x00\x00\x00\x82\x57\xff"},
		{integers(5, 6), "\x01\x30\x00\x00\x00\x00\x00\x00\x2a"},
		{integers(0), "\x01" + nought},
		{integers(-1), "\x01\x00\x00\x00\x00\x00\x00\x00\x01"},
		{integers(-3, -5), "\x01\x20\x00\x00\x00\x00\x00\x00\x1d"},
		{integers(most), "\x00\x7f\xff\xff\xff\xff\xff\xff\xff"},
		{integers(0x4123456789abcdef, -2), "\x00\x41\x23\x45\x67\x89\xab\xcd\xef\xff\xff\xff\xff\xff\xff\xff\xfe"},
		{integers(1<<59 - 1), "\x01\xdf\xff\xff\xff\xff\xff\xff\xfe"},
		{integers(-1 << 59), "\x01\xdf\xff\xff\xff\xff\xff\xff\xff"},
		{integers(1 << 59), "\x00\x08\x00\x00\x00\x00\x00\x00\x00"},
		{integers(0, least), "\x00" + nought + "\x80\x00\x00\x00\x00\x00\x00\x00"},
		{list(api.Boolean, 1), "\x80"},
		{list(api.Boolean, 0), "\x00"},
		{list(api.Boolean, 1, 0, 1), "\xa0"},
		{list(api.Boolean, 0, 0, 0, 0, 0, 0, 0, 1), "\x01"},
		{list(api.Boolean, 0, 0, 0, 0, 0, 0, 0, 0, 1), "\x00\x80"},
		{texts(""), "\x00\x00"},
		{texts("hi"), "\x00\x02hi"},
		{texts("", "\x00", "a\n"), "\x00\x00\x01\x00\x02a\n"},
		{texts("", "", "", "", "", "", "", ""), "\x01\x01\x00\x83\x00\x01"},
		{texts("abcdabcdabcd", "", "abcdabcdabcd"), "\x01\x05\x0cabcd\x84\x00\x04\x01\x00\x89\x00\x0e"},
		{texts(strings.Repeat("x", 300)), "\x01\x03\xac\x02x\xff\x00\x01\xff\x00\x01\xa1\x00\x01"},
	} {
		checkBoth(t, c.values, []byte(c.want))
	}
}

// TestFloatSpans has each place of the highest and of the lowest bit in which a float is unlike the one ahead.
func TestFloatSpans(t *testing.T) {
	random := rand.New(rand.NewSource(1))
	for high := range 64 {
		for low := range high + 1 {
			edges := uint64(1)<<high | uint64(1)<<low
			inner := edges - uint64(1)<<low
			for _, between := range []uint64{0, math.MaxUint64, 0xaaaaaaaaaaaaaaaa, random.Uint64()} {
				x := edges | between&inner
				ahead := random.Uint64()
				for !formed(list(api.Float, ahead)[0]) || !formed(list(api.Float, ahead^x)[0]) {
					ahead = random.Uint64()
				}
				checkValues(t, list(api.Float, ahead, ahead^x))
				checkValues(t, list(api.Float, ahead, ahead^x, ahead^x, ahead))
				checkValues(t, list(api.Float, ahead, ahead, ahead^x, 1, ahead^x))
			}
		}
	}
}

// TestIntegersPackedOrNot: what is packed goes up to 2^60 - 1, of the first one and of each step, to either side.
func TestIntegersPackedOrNot(t *testing.T) {
	const far = 1 << 59
	checkPacked := func(want byte, values []api.Value) {
		t.Helper()
		checkValues(t, values)
		if b, _ := column.Encode(values); len(b) == 0 || b[0] != want {
			t.Fatalf("Encode(%s): %s, not with %d ahead", short(values), short(b), want)
		}
	}
	checkPacked(1, integers(far-1))
	checkPacked(0, integers(far))
	checkPacked(1, integers(-far))
	checkPacked(0, integers(-far-1))
	checkPacked(0, integers(most))
	checkPacked(0, integers(least))
	for _, from := range []int64{0, 1, -1, far - 1, -far} {
		for n := range 40 {
			same := slices.Repeat(integers(from), 1+n)
			checkPacked(1, append(same, integers(from+far-1)...))
			checkPacked(0, append(same, integers(from+far)...))
			checkPacked(1, append(same, integers(from-far)...))
			checkPacked(0, append(same, integers(from-far-1)...))
			checkPacked(1, append(same, integers(from+far-1, from-1)...))
			checkPacked(0, append(same, integers(from+far-1, from-2)...))
		}
	}
	// Steps are modulo 2^64: from the greatest one on it is one step to the least one.
	var up, down []api.Value
	for i := range int64(17) {
		up = append(up, integers(i*(far-1))...)
		down = append(down, integers(-i*far)...)
	}
	checkPacked(1, up)
	checkPacked(1, down)
	checkPacked(1, append(up, integers(most, least, most)...))
	checkPacked(1, append(down, integers(least, most, least)...))
	checkPacked(1, append(up, integers(most, least+far-2, most, least+far-2)...))
	checkPacked(0, append(up, integers(most, least+far)...))
	checkPacked(0, integers(most, least))
	checkPacked(0, append(integers(0), integers(least, most)...))
}

func TestIntegersNearEdges(t *testing.T) {
	edges := []int64{least, least + 1, -1 << 60, -1<<59 - 1, -1 << 59, -2, -1, 0, 1, 2, 1<<59 - 1, 1 << 59, 1 << 60, most - 1, most}
	for _, first := range edges {
		checkValues(t, integers(first))
		for _, second := range edges {
			checkValues(t, integers(first, second))
			for _, third := range edges {
				checkValues(t, integers(first, second, third))
			}
		}
	}
}

func TestEachCount(t *testing.T) {
	random := rand.New(rand.NewSource(2))
	for n := 1; n <= 1000; n++ {
		if n > 70 && n%60 > 3 && n < 995 {
			continue
		}
		for _, kind := range kinds {
			var values []api.Value
			for i := range n {
				values = append(values, someValue(random, kind, i/40%3))
			}
			checkValues(t, values)
		}
	}
}

// TestStringLengths: the lengths at which their short bytes grow, and the longest one.
func TestStringLengths(t *testing.T) {
	random := rand.New(rand.NewSource(3))
	for _, n := range []int{0, 1, 2, 126, 127, 128, 129, 255, 256, 16383, 16384, 16385, 65535, 65536} {
		checkValues(t, texts(strings.Repeat("a", n)))
		checkValues(t, texts(noise(random, n)))
		checkValues(t, texts("ab", noise(random, n), "", "cd"))
	}
	checkRefused(t, texts(strings.Repeat("a", 65537)), api.ErrArg)
}

// TestStringsPackedOrNot: they are packed, if that makes them shorter, not if they stay as long.
func TestStringsPackedOrNot(t *testing.T) {
	for own := 8; own < 120; own++ {
		text := distinct(own)
		for copied := range 8 {
			values := texts(text + text[:copied])
			packed := lz.Pack(laid(values))
			want := append([]byte{0}, laid(values)...)
			// A copy of four bytes saves one, and the piece ahead has one more.
			if copied > 4 {
				want = append([]byte{1}, packed...)
			}
			if copied == 4 && len(packed) != len(laid(values)) || copied == 5 && len(packed) != len(laid(values))-1 {
				t.Fatalf("%d and %d bytes have %d packed", own, copied, len(packed))
			}
			checkBoth(t, values, want)
			// Neither is it read, where it should be the other one.
			checkNone(t, api.String, 1, append([]byte{1 - want[0]}, want[1:]...))
			if want[0] == 1 {
				checkNone(t, api.String, 1, append([]byte{0}, laid(values)...))
			} else {
				checkNone(t, api.String, 1, append([]byte{1}, packed...))
			}
		}
	}
}

// TestMostTexts: with their lengths 2^22 bytes are taken, one more is too many.
func TestMostTexts(t *testing.T) {
	random := rand.New(rand.NewSource(4))
	for _, text := range []string{strings.Repeat("a", 65533), noise(random, 65533)} {
		values := slices.Repeat(texts(text), 64)
		if n := len(laid(values)); n != mostTexts {
			t.Fatalf("%d bytes", n)
		}
		checkValues(t, values)
		more := append(slices.Clone(values), texts("")...)
		checkRefused(t, more, api.ErrLong)
		checkRefused(t, append(texts(""), values...), api.ErrLong)
		longer := slices.Clone(values)
		longer[20].Text += "b"
		checkRefused(t, longer, api.ErrLong)
		checkRefused(t, slices.Repeat(values, 15), api.ErrLong)
		// Nor are more of them read.
		checkNone(t, api.String, len(more), append([]byte{0}, laid(more)...))
		checkNone(t, api.String, len(more), append([]byte{1}, lz.Pack(laid(more))...))
		checkNone(t, api.String, len(longer), append([]byte{1}, lz.Pack(laid(longer))...))
	}
	var plain []api.Value
	for range 64 {
		plain = append(plain, texts(noise(random, 65533))...)
	}
	checkValues(t, plain)
	if b, _ := column.Encode(plain); b[0] != 0 {
		t.Error("random bytes are packed")
	}
	// The longest ones of all.
	checkRefused(t, slices.Repeat(texts(strings.Repeat("a", 65536)), 1000), api.ErrLong)
	checkValues(t, slices.Repeat(texts(strings.Repeat("a", 65536)), 63))
}

// unformed are values that aren't formed.
func unformed() []api.Value {
	return []api.Value{
		{}, {Kind: 5}, {Kind: -1}, {Kind: 0, Bits: 1}, {Kind: 9, Text: "a"}, {Kind: math.MaxInt}, {Kind: math.MinInt},
		floats(math.NaN())[0], floats(math.Inf(1))[0], floats(math.Inf(-1))[0], {Kind: api.Float, Bits: math.MaxUint64}, {Kind: api.Float, Text: "a"},
		{Kind: api.Integer, Bits: 1, Text: "1"}, {Kind: api.Boolean, Bits: 2}, {Kind: api.Boolean, Bits: math.MaxUint64}, {Kind: api.Boolean, Bits: 1, Text: "t"},
		{Kind: api.String, Bits: 1}, {Kind: api.String, Bits: 1, Text: "a"}, {Kind: api.String, Text: strings.Repeat("a", 65537)},
	}
}

func TestEncodeRefuses(t *testing.T) {
	checkRefused(t, nil, api.ErrArg)
	checkRefused(t, []api.Value{}, api.ErrArg)
	for _, kind := range kinds {
		one := list(kind, 0)
		checkValues(t, slices.Repeat(one, 1000))
		for _, n := range []int{1001, 1002, 2000, 65536, 66536} {
			checkRefused(t, slices.Repeat(one, n), api.ErrArg)
		}
		for _, v := range unformed() {
			checkRefused(t, []api.Value{v}, api.ErrArg)
			for _, n := range []int{1, 2, 9, 500, 999} {
				checkRefused(t, append(slices.Repeat(one, n), v), api.ErrArg)
				checkRefused(t, append([]api.Value{v}, slices.Repeat(one, n)...), api.ErrArg)
			}
		}
		for _, other := range kinds {
			if other == kind {
				continue
			}
			for _, n := range []int{1, 2, 9, 500, 999} {
				checkRefused(t, append(slices.Repeat(one, n), list(other, 0)...), api.ErrType)
				checkRefused(t, append(list(other, 0), slices.Repeat(one, n)...), api.ErrType)
			}
		}
	}
}

// TestOrderOfErrors: ErrArg is asked ahead of ErrType, and this ahead of ErrLong.
func TestOrderOfErrors(t *testing.T) {
	long := slices.Repeat(texts(strings.Repeat("a", 65536)), 100)
	checkRefused(t, long, api.ErrLong)
	checkRefused(t, append(slices.Clone(long), integers(1)...), api.ErrType)
	checkRefused(t, append(integers(1), long...), api.ErrType)
	checkRefused(t, append(slices.Clone(long), api.Value{Kind: api.String, Bits: 1}), api.ErrArg)
	checkRefused(t, slices.Repeat(long, 11), api.ErrArg)
	for _, v := range unformed() {
		checkRefused(t, append(integers(1), floats(1)[0], v), api.ErrArg)
		checkRefused(t, append(append(integers(1), long...), v), api.ErrArg)
	}
	checkRefused(t, slices.Repeat(slices.Concat(integers(1), floats(1)), 501), api.ErrArg)
	checkRefused(t, slices.Repeat(slices.Concat(integers(1), floats(1)), 500), api.ErrType)
}

// TestDecodeOfAnotherKind: bytes are those of one Kind as well as of another, if they stand so.
func TestDecodeOfAnotherKind(t *testing.T) {
	for _, values := range someColumns() {
		b, _ := encoded(values)
		for _, kind := range kinds {
			for n := range 40 {
				checkBytes(t, kind, n, b)
			}
		}
		for _, kind := range []int{0, -1, 5, 6, 256, 257, math.MaxInt, math.MinInt} {
			checkNone(t, kind, len(values), b)
			checkNone(t, kind, 1, nil)
			checkNone(t, kind, 0, nil)
		}
	}
}

func TestDecodeOfAnotherCount(t *testing.T) {
	for _, values := range someColumns() {
		b, _ := encoded(values)
		for _, n := range []int{0, -1, -1000, 1001, 2000, 65536, 65536 + len(values), math.MaxInt, math.MinInt} {
			checkNone(t, values[0].Kind, n, b)
			checkNone(t, values[0].Kind, n, nil)
		}
		for n := range 1100 {
			checkBytes(t, values[0].Kind, n, b)
		}
	}
	// The noughts that fill up a byte may be values: so far, and no farther.
	for n := range 20 {
		if n < 1 || n > 8 {
			checkNone(t, api.Boolean, n, []byte{0xa0})
		} else if n >= 3 {
			checkDecode(t, []byte{0xa0}, append(list(api.Boolean, 1, 0, 1), falses(n-3)...))
		} else {
			checkNone(t, api.Boolean, n, []byte{0xa0})
		}
	}
}

// falses is n times false.
func falses(n int) []api.Value {
	return slices.Repeat(list(api.Boolean, 0), n)
}

func TestDecodeOfTooManyValues(t *testing.T) {
	checkNone(t, api.Boolean, 1001, make([]byte, 126))
	checkNone(t, api.Float, 1001, make([]byte, 8+125))
	checkNone(t, api.Integer, 1001, plainBytes(slices.Repeat(integers(least, most), 501)[:1001]))
	checkNone(t, api.Integer, 1001, packedBytes(slices.Repeat(integers(7), 1001)))
	checkNone(t, api.String, 1001, append([]byte{1}, lz.Pack(make([]byte, 1001))...))
	checkDecode(t, make([]byte, 125), falses(1000))
	checkDecode(t, append([]byte{1}, lz.Pack(make([]byte, 1000))...), slices.Repeat(texts(""), 1000))
}

func TestDecodeOfTooFewOrManyBytes(t *testing.T) {
	for _, values := range someColumns() {
		kind, n := values[0].Kind, len(values)
		b, _ := encoded(values)
		for i := range len(b) {
			checkNone(t, kind, n, b[:i])
			checkBytes(t, kind, n, b[i+1:])
		}
		for i := 1; i <= 17; i++ {
			checkNone(t, kind, n, append(bytes.Clone(b), make([]byte, i)...))
			checkNone(t, kind, n, append(bytes.Clone(b), bytes.Repeat([]byte{0xff}, i)...))
			checkBytes(t, kind, n, append(make([]byte, i), b...))
		}
		checkNone(t, kind, n, append(bytes.Clone(b), b...))
	}
	for _, kind := range kinds {
		for _, fill := range []byte{0, 1, 2, 0x7f, 0x80, 0xff} {
			for size := range 40 {
				for _, n := range []int{1, 2, 3, 8, 9, 60, 1000} {
					checkBytes(t, kind, n, bytes.Repeat([]byte{fill}, size))
				}
			}
			checkNone(t, kind, 5, bytes.Repeat([]byte{fill}, 1<<20))
		}
	}
}

// TestDecodeOfFloatsOtherwise: a float has one row of bits alone.
func TestDecodeOfFloatsOtherwise(t *testing.T) {
	first := strings.Repeat("0", 64)
	checkDecode(t, filled(first+"1"+"111100"+"000010"+"101"), list(api.Float, 0, 10))
	for _, text := range []string{
		// A highest bit, or a lowest one, that is 0.
		"1" + "111011" + "000011" + "0101",
		"1" + "111100" + "000011" + "1010",
		"1" + "000000" + "111111" + strings.Repeat("0", 60) + "1010",
		// No bit at all that is unlike.
		"1" + "111111" + "000000" + "0",
		"1" + "000000" + "000000" + "0",
		"1" + "000000" + "111111" + first,
		// More bits than a float has.
		"1" + "111100" + "000100" + "10101",
		"1" + "111111" + "000001" + "11",
		"1" + "111111" + "111111" + strings.Repeat("1", 64),
		"1" + "000001" + "111111" + strings.Repeat("1", 64),
		// Bits that fill up and aren't 0, and a byte of them too many.
		"1" + "111100" + "000010" + "101" + "1" + "0000000",
		"1" + "111100" + "000010" + "101" + "000000000",
		"01", "00000001", "000000000",
	} {
		checkNone(t, api.Float, 2, filled(first+text))
	}
	for _, n := range []int{1, 2, 7, 12, 13, 14, 15} {
		checkNone(t, api.Float, 2, filled(first + "1111100000010101"[:n])[:8+(n-1)/8])
	}
}

// TestDecodeOfFloatsNotFormed: infinite ones, and those that aren't numbers, have no bytes.
func TestDecodeOfFloatsNotFormed(t *testing.T) {
	for _, f := range []float64{math.Inf(1), math.Inf(-1), math.NaN()} {
		checkNone(t, api.Float, 1, floatBytes(floats(f)))
		checkNone(t, api.Float, 2, floatBytes(floats(f, 1)))
		checkNone(t, api.Float, 2, floatBytes(floats(1, f)))
		checkNone(t, api.Float, 4, floatBytes(floats(1, 1, f, 2)))
	}
}

// TestDecodeOfIntegersOtherwise: of integers Pack takes all, or none is packed; and the words are those that Pack makes.
func TestDecodeOfIntegersOtherwise(t *testing.T) {
	for _, values := range [][]api.Value{integers(5), integers(5, 6), integers(-1 << 59), integers(1<<59-1, 1<<60-2)} {
		checkDecode(t, packedBytes(values), values)
		checkNone(t, api.Integer, len(values), plainBytes(values))
	}
	for _, values := range [][]api.Value{integers(1 << 59), integers(least, most), integers(0, 1<<59)} {
		checkDecode(t, plainBytes(values), values)
		for ahead := 1; ahead < 256; ahead++ {
			checkNone(t, api.Integer, len(values), append([]byte{byte(ahead)}, plainBytes(values)[1:]...))
		}
	}
	b := packedBytes(integers(5, 6))
	for ahead := range 256 {
		if ahead != 1 {
			checkNone(t, api.Integer, 2, append([]byte{byte(ahead)}, b[1:]...))
		}
	}
	for _, words := range []string{
		"\x40\x00\x00\x00\x00\x00\x00\x4a",
		"\xe0\x00\x00\x00\x00\x00\x00\x2a",
		"\x30\x00\x00\x00\x00\x00\x00\x2a\x00\x00\x00\x00\x00\x00\x00\x00",
		"\xd0\x00\x00\x00\x00\x00\x00\x0a\xd0\x00\x00\x00\x00\x00\x00\x02",
		"\x30\x00\x00\x00\x00\x00\x00",
	} {
		checkNone(t, api.Integer, 2, []byte("\x01"+words))
	}
}

func TestDecodeOfBooleansOtherwise(t *testing.T) {
	for n := 1; n <= 8; n++ {
		for c := range 256 {
			values := told(api.Boolean, n, []byte{byte(c)})
			if c<<n&0xff == 0 {
				checkBoth(t, values, []byte{byte(c)})
			} else {
				checkNone(t, api.Boolean, n, []byte{byte(c)})
			}
		}
	}
	checkNone(t, api.Boolean, 8, []byte{1, 0})
	checkNone(t, api.Boolean, 9, []byte{1})
	checkNone(t, api.Boolean, 9, []byte{1, 1})
}

// TestDecodeOfStringsOtherwise: lengths that aren't short bytes, or lie; texts that are too long; another byte ahead.
func TestDecodeOfStringsOtherwise(t *testing.T) {
	checkDecode(t, []byte("\x00\x02hi"), texts("hi"))
	for _, b := range []string{
		"", "\x00", "\x01", "\x02\x02hi", "\xff\x02hi", "\x00\x03hi", "\x00\x01hi", "\x00\x02h", "\x00\x02hi\x00", "\x00\x80", "\x00\x80\x00", "\x00\x82\x00hi",
		"\x00\xff\xff\xff\xff\xff\xff\xff\xff\xff\x01hi", "\x00\xff\xff\xff\xff\xff\xff\xff\xff\x7fhi", "\x00\x80\x80\x80\x80\x80\x80\x80\x80\x80\x01", "\x00\x80\x80\x80\x80\x80\x80\x80\x80\x80\x02",
		"\x01\x02hi", "\x01\x03\x02hi", "\x01\x01\x02\x02hi", "\x01\x00", "\x01\x80\x00\x01", "\x01\x03\x02hi\x80",
	} {
		checkNone(t, api.String, 1, []byte(b))
	}
	// Other pieces that stand for the same.
	values := texts(strings.Repeat("x", 300))
	checkDecode(t, []byte("\x01\x03\xac\x02x\xff\x00\x01\xff\x00\x01\xa1\x00\x01"), values)
	checkNone(t, api.String, 1, []byte("\x01\x03\xac\x02x\xff\x00\x01\xa1\x00\x01\xff\x00\x01"))
	checkNone(t, api.String, 1, []byte("\x01\x02\xac\x02\x01x\xff\x00\x01\xff\x00\x01\xa1\x00\x01"))
	checkNone(t, api.String, 1, []byte("\x01\x04\xac\x02xx\xff\x00\x01\xff\x00\x01\xa0\x00\x01"))
	// A text that isn't formed, packed and not.
	long := texts(strings.Repeat("x", 65537))
	checkNone(t, api.String, 1, append([]byte{1}, lz.Pack(laid(long))...))
	checkNone(t, api.String, 1, append([]byte{0}, laid(long)...))
	checkNone(t, api.String, 1, append([]byte{0}, laid(texts(noise(rand.New(rand.NewSource(5)), 65537)))...))
	// Few bytes that stand for very many.
	checkNone(t, api.String, 1, append([]byte("\x01\x01a"), bytes.Repeat([]byte("\xff\x00\x01"), 1<<18)...))
}

// someValue is a formed value of that Kind: the higher its sort, the farther from the others.
func someValue(random *rand.Rand, kind, sort int) api.Value {
	switch kind {
	case api.Float:
		f := math.Float64frombits(random.Uint64())
		if sort < 2 || f-f != 0 {
			f = float64(random.Intn(50)) / []float64{1, 2, 10}[random.Intn(3)]
		}
		return floats(f)[0]
	case api.Integer:
		return integers(int64(random.Uint64()) >> (random.Intn(10) + []int{53, 10, 0}[sort]))[0]
	case api.Boolean:
		return list(api.Boolean, uint64(random.Intn(2)))[0]
	}
	if sort == 0 {
		return texts([]string{"", "on", "off", "fan running", "fan stopped"}[random.Intn(5)])[0]
	}
	return texts(noise(random, random.Intn(20*sort)))[0]
}

// someColumn is formed values of one Kind.
func someColumn(random *rand.Rand, most int) []api.Value {
	kind, sort := kinds[random.Intn(4)], random.Intn(3)
	var values []api.Value
	for range 1 + random.Intn(most) {
		if len(values) > 0 && random.Intn(4) == 0 {
			values = append(values, values[len(values)-1])
		} else {
			values = append(values, someValue(random, kind, sort))
		}
	}
	return values
}

func TestThereAndBack(t *testing.T) {
	random := rand.New(rand.NewSource(6))
	for range 1500 {
		checkValues(t, someColumn(random, 300))
	}
	for range 50000 {
		checkValues(t, someColumn(random, 6))
	}
}

// TestDecodeOfChangedBytes turns single bits of values' bytes.
func TestDecodeOfChangedBytes(t *testing.T) {
	random := rand.New(rand.NewSource(7))
	for range 400 {
		values := someColumn(random, 12)
		b, _ := encoded(values)
		for bit := range 8 * len(b) {
			changed := bytes.Clone(b)
			changed[bit/8] ^= 128 >> (bit % 8)
			checkBytes(t, values[0].Kind, len(values), changed)
		}
	}
}

func TestDecodeOfAnything(t *testing.T) {
	random := rand.New(rand.NewSource(8))
	for first := range 256 {
		for second := range 256 {
			for _, kind := range kinds {
				checkBytes(t, kind, 1+first%4, []byte{byte(first), byte(second)})
				checkBytes(t, kind, 2, []byte{byte(second % 2), byte(first), 'a', byte(second)})
				checkBytes(t, kind, 2, []byte{0, 0, 0, 0, 0, 0, 0, 0, byte(first), byte(second)})
			}
		}
	}
	for range 100000 {
		b := []byte(noise(random, random.Intn(30)))
		if len(b) > 0 && random.Intn(2) == 0 {
			b[0] %= 2
		}
		checkBytes(t, kinds[random.Intn(4)], random.Intn(8), b)
	}
}

// TestArgumentsStay: what is handed in isn't changed, nor its spare room, and no answer hangs on it later.
func TestArgumentsStay(t *testing.T) {
	for _, values := range someColumns() {
		want, _ := encoded(values)
		room := slices.Concat(integers(9, 8), values, integers(7, 6, 5))
		before := slices.Clone(room)
		b, _ := column.Encode(room[2 : 2+len(values)])
		if !slices.Equal(room, before) {
			t.Errorf("the values are %s now", short(room))
		}
		clear(room)
		if !bytes.Equal(b, want) {
			t.Errorf("the answer is %s now", short(b))
		}
		bytesRoom := slices.Concat([]byte{9, 9}, want, []byte{9, 9, 9})
		bytesBefore := bytes.Clone(bytesRoom)
		got, _ := column.Decode(values[0].Kind, len(values), bytesRoom[2:2+len(want)])
		if !bytes.Equal(bytesRoom, bytesBefore) {
			t.Errorf("the bytes are %s now", short(bytesRoom))
		}
		clear(bytesRoom)
		if !slices.Equal(got, values) {
			t.Errorf("the answer is %s now", short(got))
		}
	}
}

// TestAnswersAreNew: each answer has its own memory, its spare room too, and no call leaves a mark for the next one.
func TestAnswersAreNew(t *testing.T) {
	for _, values := range someColumns() {
		want, _ := encoded(values)
		first, _ := column.Encode(values)
		second, _ := column.Encode(values)
		all := first[:cap(first)]
		for i := range all {
			all[i] = 0xaa
		}
		own, _ := column.Decode(values[0].Kind, len(values), want)
		others, _ := column.Decode(values[0].Kind, len(values), want)
		room := own[:cap(own)]
		for i := range room {
			room[i] = api.Value{Kind: 9}
		}
		if !bytes.Equal(second, want) || !slices.Equal(others, values) {
			t.Errorf("two answers of %s share memory", short(values))
		}
		checkValues(t, values)
	}
}

func FuzzDecode(f *testing.F) {
	for _, values := range someColumns() {
		b, _ := encoded(values)
		f.Add(values[0].Kind, len(values), b)
	}
	f.Add(api.Float, 2, filled(strings.Repeat("0", 64)+"1"+"111111"+"111111"+strings.Repeat("1", 64)))
	f.Add(api.String, 1, []byte("\x00\xff\xff\xff\xff\xff\xff\xff\xff\xff\x01hi"))
	f.Add(0, 0, []byte{})
	f.Fuzz(checkBytes)
}
