package bits_test

import (
	"bytes"
	"math"
	"math/rand"
	"strings"
	"testing"

	"grist/bits"
)

// put is one call of Put.
type put struct {
	v uint64
	n int
}

// digits are the lowest n bits of v as the digits 0 and 1, the highest first: what a writer and a reader are held against.
func digits(v uint64, n int) string {
	var text strings.Builder
	for i := n - 1; i >= 0; i-- {
		text.WriteByte('0' + byte(v>>i&1))
	}
	return text.String()
}

// filled are the bytes of a text of digits, the last one filled up.
func filled(text string) []byte {
	b := []byte{}
	for i, digit := range text {
		if i%8 == 0 {
			b = append(b, 0)
		}
		if digit == '1' {
			b[i/8] += 128 >> (i % 8)
		}
	}
	return b
}

// number is the number that the digits write.
func number(text string) uint64 {
	var v uint64
	for _, digit := range text {
		v = 2*v + uint64(digit-'0')
	}
	return v
}

// someNumbers are numbers whose bits tell places and ends apart.
func someNumbers() []uint64 {
	return []uint64{
		0, 1, 2, 5, 127, 128, 255, 256, 0xabcdef, 0x0123456789abcdef, 0xfedcba9876543210, 0xaaaaaaaaaaaaaaaa, 0x5555555555555555,
		1 << 31, 1 << 32, 1<<60 - 1, 1 << 60, 1<<63 - 1, 1 << 63, 1<<63 | 1, math.MaxUint64,
	}
}

func checkWriter(t *testing.T, w *bits.Writer, want string) {
	t.Helper()
	if w.Len() != len(want) {
		t.Fatalf("Len: %d, not %d", w.Len(), len(want))
	}
	if got := w.Bytes(); !bytes.Equal(got, filled(want)) {
		t.Fatalf("Bytes: %x, not %x", got, filled(want))
	}
}

// checkReader holds the next bits against a number, and what is left behind them.
func checkReader(t *testing.T, r *bits.Reader, n int, want uint64, left int) {
	t.Helper()
	if got := r.Get(n); got != want || r.Bad() || r.Left() != left {
		t.Fatalf("Get(%d): %x, not %x; Bad %v, Left %d, not %d", n, got, want, r.Bad(), r.Left(), left)
	}
}

// checkBad holds a reader against what each one answers from its first bit too few on.
func checkBad(t *testing.T, r *bits.Reader) {
	t.Helper()
	for _, n := range []int{1, 0, -1, 8, 64, 65, 1, math.MaxInt, math.MinInt} {
		if got := r.Get(n); got != 0 || !r.Bad() || r.Left() != 0 {
			t.Fatalf("a bad reader's Get(%d): %x; Bad %v, Left %d", n, got, r.Bad(), r.Left())
		}
	}
}

func TestPut(t *testing.T) {
	for _, c := range []struct {
		puts []put
		bits int
		want []byte
	}{
		{nil, 0, nil},
		{[]put{{5, 3}}, 3, []byte{160}},
		{[]put{{5, 3}, {1, 1}}, 4, []byte{176}},
		{[]put{{1, 1}}, 1, []byte{128}},
		{[]put{{0, 1}}, 1, []byte{0}},
		{[]put{{0, 7}, {1, 1}}, 8, []byte{1}},
		{[]put{{0, 8}}, 8, []byte{0}},
		{[]put{{0, 8}, {1, 1}}, 9, []byte{0, 128}},
		{[]put{{0, 9}}, 9, []byte{0, 0}},
		{[]put{{1, 8}, {2, 8}}, 16, []byte{1, 2}},
		{[]put{{0x1234, 16}}, 16, []byte{0x12, 0x34}},
		{[]put{{1, 4}, {0x2345, 16}, {6, 4}}, 24, []byte{0x12, 0x34, 0x56}},
		{[]put{{0x0123456789abcdef, 64}}, 64, []byte{1, 0x23, 0x45, 0x67, 0x89, 0xab, 0xcd, 0xef}},
		{[]put{{1, 1}, {1<<63 | 1, 64}, {1, 1}}, 66, []byte{0xc0, 0, 0, 0, 0, 0, 0, 0, 0xc0}},
		{[]put{{1, 1}, {0, 63}, {1, 64}}, 128, []byte{128, 0, 0, 0, 0, 0, 0, 0, 0, 0, 0, 0, 0, 0, 0, 1}},
		// The bits above the lowest n are not put.
		{[]put{{0xff, 3}}, 3, []byte{0xe0}},
		{[]put{{8 | 2, 3}}, 3, []byte{0x40}},
		{[]put{{math.MaxUint64, 1}}, 1, []byte{128}},
		{[]put{{math.MaxUint64 - 1, 1}, {1, 1}}, 2, []byte{64}},
		{[]put{{0, 2}, {0xf0f, 4}}, 6, []byte{0x3c}},
		{[]put{{math.MaxUint64, 63}}, 63, []byte{255, 255, 255, 255, 255, 255, 255, 254}},
		// None of n below 1, 64 of n above 64.
		{[]put{{9, 0}}, 0, nil},
		{[]put{{9, -1}, {9, -64}, {9, math.MinInt}}, 0, nil},
		{[]put{{5, 3}, {math.MaxUint64, 0}, {math.MaxUint64, -5}, {1, 1}}, 4, []byte{176}},
		{[]put{{3, 65}}, 64, []byte{0, 0, 0, 0, 0, 0, 0, 3}},
		{[]put{{1 << 63, 72}}, 64, []byte{128, 0, 0, 0, 0, 0, 0, 0}},
		{[]put{{math.MaxUint64, math.MaxInt}, {0, 1}}, 65, []byte{255, 255, 255, 255, 255, 255, 255, 255, 0}},
		{[]put{{1, 1}, {0, 128}, {1, 1}}, 66, []byte{128, 0, 0, 0, 0, 0, 0, 0, 64}},
	} {
		w := bits.NewWriter()
		for _, p := range c.puts {
			w.Put(p.v, p.n)
		}
		if w.Len() != c.bits || !bytes.Equal(w.Bytes(), c.want) {
			t.Errorf("%v: %d bits, %x, not %d, %x", c.puts, w.Len(), w.Bytes(), c.bits, c.want)
		}
	}
}

// TestEachWidthAtEachPlace writes and reads numbers of all widths from all places of a byte on, between other bits.
func TestEachWidthAtEachPlace(t *testing.T) {
	for place := range 17 {
		for n := 1; n <= 64; n++ {
			for _, v := range someNumbers() {
				w := bits.NewWriter()
				w.Put(math.MaxUint64, place)
				w.Put(v, n)
				w.Put(5, 3)
				checkWriter(t, w, digits(math.MaxUint64, place)+digits(v, n)+"101")
				r := bits.NewReader(w.Bytes())
				fill := 8*len(w.Bytes()) - w.Len()
				r.Get(place)
				checkReader(t, r, n, number(digits(v, n)), 3+fill)
				checkReader(t, r, 3, 5, fill)
			}
		}
	}
}

// TestRows has long rows of numbers of any widths, wrong ones among them, asked for their bytes in between.
func TestRows(t *testing.T) {
	random := rand.New(rand.NewSource(1))
	for range 500 {
		w := bits.NewWriter()
		var text strings.Builder
		var row []put
		for range random.Intn(60) {
			p := put{random.Uint64() >> random.Intn(64), random.Intn(80) - 8}
			w.Put(p.v, p.n)
			if p.n >= 1 {
				p.n = min(p.n, 64)
				row = append(row, p)
				text.WriteString(digits(p.v, p.n))
			}
			checkWriter(t, w, text.String())
		}
		r := bits.NewReader(w.Bytes())
		left := r.Left()
		for _, p := range row {
			left -= p.n
			checkReader(t, r, p.n, number(digits(p.v, p.n)), left)
		}
		checkReader(t, r, left, 0, 0)
	}
}

func TestManyBits(t *testing.T) {
	const many = 1 << 20
	w := bits.NewWriter()
	for i := range many {
		w.Put(uint64(i), 21)
	}
	if w.Len() != 21*many || len(w.Bytes()) != 21*many/8 {
		t.Fatalf("%d bits, %d bytes", w.Len(), len(w.Bytes()))
	}
	r := bits.NewReader(w.Bytes())
	for i := range many {
		if got := r.Get(21); got != uint64(i) {
			t.Fatalf("number %d is %d", i, got)
		}
	}
	if r.Left() != 0 || r.Bad() {
		t.Errorf("Left %d, Bad %v", r.Left(), r.Bad())
	}
}

// TestBytesAreNew: what is done to an answer, its spare room too, and what is put later, changes no other answer.
func TestBytesAreNew(t *testing.T) {
	for _, n := range []int{3, 8, 21, 64, 100} {
		w := bits.NewWriter()
		var text string
		for i := range 20 {
			w.Put(uint64(i), n)
			text += digits(uint64(i), min(n, 64))
			first, second := w.Bytes(), w.Bytes()
			all := first[:cap(first)]
			for j := range all {
				all[j] = 0xff
			}
			if !bytes.Equal(second, filled(text)) {
				t.Fatalf("width %d: two answers share memory", n)
			}
			checkWriter(t, w, text)
			w.Put(math.MaxUint64, n)
			if !bytes.Equal(second, filled(text)) {
				t.Fatalf("width %d: an answer changed with the next Put", n)
			}
			text += digits(math.MaxUint64, min(n, 64))
			checkWriter(t, w, text)
		}
	}
}

func TestWritersAreApart(t *testing.T) {
	first, second := bits.NewWriter(), bits.NewWriter()
	first.Put(5, 3)
	second.Put(1, 9)
	first.Put(1, 1)
	checkWriter(t, first, "1011")
	checkWriter(t, second, "000000001")
}

func TestNilWriter(t *testing.T) {
	var w *bits.Writer
	for _, n := range []int{0, 1, 8, 64, 65, -1} {
		w.Put(7, n)
	}
	if w.Len() != 0 || len(w.Bytes()) != 0 {
		t.Errorf("%d bits, %x", w.Len(), w.Bytes())
	}
}

func TestGet(t *testing.T) {
	r := bits.NewReader([]byte{0xb5, 0x01, 0xff, 0x80, 0x12, 0x34, 0x56, 0x78, 0x9a, 0xbc, 0xde, 0xf0})
	checkReader(t, r, 1, 1, 95)
	checkReader(t, r, 3, 3, 92)
	checkReader(t, r, 4, 5, 88)
	checkReader(t, r, 8, 1, 80)
	checkReader(t, r, 9, 0x1ff, 71)
	checkReader(t, r, 7, 0, 64)
	checkReader(t, r, 64, 0x123456789abcdef0, 0)
	checkReader(t, r, 0, 0, 0)
	if got := r.Get(1); got != 0 {
		t.Errorf("Get behind the end: %d", got)
	}
	checkBad(t, r)
}

// TestGetOfNoWidth: such a call reads nothing and makes no reader bad, however many bits are left.
func TestGetOfNoWidth(t *testing.T) {
	wrong := []int{0, -1, -8, -64, math.MinInt, 65, 66, 72, 128, math.MaxInt}
	for _, b := range [][]byte{nil, {}, {0xa5}, bytes.Repeat([]byte{0xa5}, 7), bytes.Repeat([]byte{0xa5}, 40)} {
		r := bits.NewReader(b)
		left := 8 * len(b)
		for _, n := range wrong {
			checkReader(t, r, n, 0, left)
		}
		if len(b) == 0 {
			continue
		}
		checkReader(t, r, 3, 5, left-3)
		for _, n := range wrong {
			checkReader(t, r, n, 0, left-3)
		}
		checkReader(t, r, 5, 5, left-8)
	}
}

// TestGetTooFew asks for each width of each shorter rest: the rest isn't read by halves.
func TestGetTooFew(t *testing.T) {
	for length := range 9 {
		b := bytes.Repeat([]byte{0xff}, length)
		for read := 0; read <= min(8*length, 64); read++ {
			left := 8*length - read
			for n := left + 1; n <= 64; n++ {
				r := bits.NewReader(b)
				r.Get(read)
				if r.Left() != left || r.Bad() {
					t.Fatalf("%d of %d bits read: Left %d, Bad %v", read, 8*length, r.Left(), r.Bad())
				}
				if got := r.Get(n); got != 0 {
					t.Fatalf("Get(%d) of %d bits: %x", n, left, got)
				}
				checkBad(t, r)
			}
		}
	}
}

// TestGetAll reads to the very end, by all widths: that is not too much.
func TestGetAll(t *testing.T) {
	b := bytes.Repeat([]byte{0xff}, 120)
	for n := 1; n <= 64; n++ {
		r := bits.NewReader(b)
		left := 8 * len(b)
		for left >= n {
			left -= n
			checkReader(t, r, n, math.MaxUint64>>(64-n), left)
		}
		if left > 0 {
			checkReader(t, r, left, math.MaxUint64>>(64-left), 0)
		}
		r.Get(1)
		checkBad(t, r)
	}
}

func TestNilReader(t *testing.T) {
	var r *bits.Reader
	if !r.Bad() {
		t.Error("a nil reader isn't bad")
	}
	checkBad(t, r)
}

func TestReaderOfNone(t *testing.T) {
	for _, b := range [][]byte{nil, {}, make([]byte, 0, 9)} {
		r := bits.NewReader(b)
		if r.Bad() || r.Left() != 0 {
			t.Errorf("a new reader: Bad %v, Left %d", r.Bad(), r.Left())
		}
		r.Get(1)
		checkBad(t, r)
	}
}

// TestReaderKeepsNothing: a slice that is changed behind NewReader changes no reader, and no reader changes it.
func TestReaderKeepsNothing(t *testing.T) {
	room := []byte{1, 2, 3, 4, 5, 6}
	r := bits.NewReader(room[1:3])
	other := bits.NewReader(room[1:3])
	checkReader(t, r, 8, 2, 8)
	if !bytes.Equal(room, []byte{1, 2, 3, 4, 5, 6}) {
		t.Errorf("the slice is %v now", room)
	}
	for i := range room {
		room[i] = 0xff
	}
	checkReader(t, r, 8, 3, 0)
	r.Get(1)
	checkBad(t, r)
	checkReader(t, other, 16, 0x0203, 0)
	if !bytes.Equal(room, bytes.Repeat([]byte{0xff}, 6)) {
		t.Errorf("the slice is %v now", room)
	}
}
