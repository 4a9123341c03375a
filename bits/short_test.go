package bits_test

import (
	"bytes"
	"math"
	"math/big"
	"math/rand"
	"testing"

	"grist/bits"
)

// zigs are numbers and what Zig answers of them.
func zigs() map[int64]uint64 {
	return map[int64]uint64{
		0: 0, 1: 2, 2: 4, 3: 6, 63: 126, 64: 128, 1000: 2000, -1: 1, -2: 3, -3: 5, -64: 127, -65: 129, -1000: 1999,
		1 << 31: 1 << 32, -1 << 31: 1<<32 - 1, 1<<32 + 1: 1<<33 + 2, -1<<32 - 1: 1<<33 + 1, 1 << 59: 1 << 60, -1 << 59: 1<<60 - 1,
		1 << 62: 1 << 63, -1 << 62: 1<<63 - 1, 1<<62 - 1: 1<<63 - 2, -1<<62 - 1: 1<<63 + 1,
		math.MaxInt64: math.MaxUint64 - 1, math.MaxInt64 - 1: math.MaxUint64 - 3,
		math.MinInt64: math.MaxUint64, math.MinInt64 + 1: math.MaxUint64 - 2,
	}
}

func TestZig(t *testing.T) {
	for n, want := range zigs() {
		if got := bits.Zig(n); got != want {
			t.Errorf("Zig(%d): %d, not %d", n, got, want)
		}
		if got := bits.Zag(want); got != n {
			t.Errorf("Zag(%d): %d, not %d", want, got, n)
		}
	}
}

// exactZig is Zig worked out by exact numbers.
func exactZig(n int64) uint64 {
	exact := big.NewInt(n)
	if n >= 0 {
		exact.Mul(exact, big.NewInt(2))
	} else {
		exact.Mul(exact, big.NewInt(-2))
		exact.Sub(exact, big.NewInt(1))
	}
	return exact.Uint64()
}

func TestZigIsExact(t *testing.T) {
	random := rand.New(rand.NewSource(2))
	for i := range 100000 {
		n := int64(random.Uint64()) >> random.Intn(64)
		if i < 4000 {
			n = int64(i - 2000)
		}
		if got, want := bits.Zig(n), exactZig(n); got != want {
			t.Fatalf("Zig(%d): %d, not %d", n, got, want)
		}
		if got := bits.Zag(bits.Zig(n)); got != n {
			t.Fatalf("Zag doesn't undo Zig of %d: %d", n, got)
		}
		if got := bits.Zig(bits.Zag(uint64(n))); got != uint64(n) {
			t.Fatalf("Zig doesn't undo Zag of %d: %d", uint64(n), got)
		}
	}
}

// shorts are short bytes, as texts, and their numbers.
func shorts() map[string]uint64 {
	return map[string]uint64{
		"\x00": 0, "\x01": 1, "\x02": 2, "\x7e": 126, "\x7f": 127, "\x80\x01": 128, "\x81\x01": 129, "\xff\x01": 255, "\x80\x02": 256, "\xac\x02": 300,
		"\xff\x7f": 1<<14 - 1, "\x80\x80\x01": 1 << 14, "\xff\xff\x7f": 1<<21 - 1, "\x80\x80\x80\x01": 1 << 21,
		"\xff\xff\xff\x7f": 1<<28 - 1, "\x80\x80\x80\x80\x01": 1 << 28, "\xff\xff\xff\xff\x0f": 1<<32 - 1, "\x80\x80\x80\x80\x10": 1 << 32,
		"\xff\xff\xff\xff\x7f": 1<<35 - 1, "\x80\x80\x80\x80\x80\x01": 1 << 35, "\xff\xff\xff\xff\xff\x7f": 1<<42 - 1,
		"\x80\x80\x80\x80\x80\x80\x01": 1 << 42, "\xff\xff\xff\xff\xff\xff\x7f": 1<<49 - 1, "\x80\x80\x80\x80\x80\x80\x80\x01": 1 << 49,
		"\xff\xff\xff\xff\xff\xff\xff\x7f": 1<<56 - 1, "\x80\x80\x80\x80\x80\x80\x80\x80\x01": 1 << 56,
		"\xff\xff\xff\xff\xff\xff\xff\xff\x7f": 1<<63 - 1, "\x80\x80\x80\x80\x80\x80\x80\x80\x80\x01": 1 << 63,
		"\x81\x80\x80\x80\x80\x80\x80\x80\x80\x01": 1<<63 + 1, "\xff\xff\xff\xff\xff\xff\xff\xff\xff\x01": math.MaxUint64,
	}
}

func checkShort(t *testing.T, b []byte, n uint64, long int) {
	t.Helper()
	if got, k := bits.ReadShort(b); got != n || k != long {
		t.Errorf("ReadShort(%x): %d %d, not %d %d", b, got, k, n, long)
	}
}

func TestShort(t *testing.T) {
	for text, n := range shorts() {
		if got := bits.Short(n); string(got) != text {
			t.Errorf("Short(%d): %x, not %x", n, got, text)
		}
		checkShort(t, []byte(text), n, len(text))
		// What stands behind them doesn't matter.
		for _, behind := range []string{"\x00", "\x01", "\x80", "\xff", "\x80\x00", "z", "\xff\xff\xff\xff\xff\xff\xff\xff\xff\xff\xff"} {
			checkShort(t, []byte(text+behind), n, len(text))
		}
		// Each beginning of them lacks its last byte.
		for i := range len(text) {
			checkShort(t, []byte(text[:i]), 0, 0)
		}
	}
}

func TestReadShortOfNone(t *testing.T) {
	for _, s := range []string{
		"", "\x80", "\xff", "\xac", "\x80\x80", "\xff\xff\xff",
		// The last byte is 0: the number has fewer.
		"\x80\x00", "\x81\x00", "\xac\x00", "\xff\x00", "\x80\x80\x00", "\xff\xff\x00", "\xac\x82\x00", "\x80\x00\x01", "\x80\x80\x80\x80\x80\x80\x80\x80\x00",
		"\x80\x80\x80\x80\x80\x80\x80\x80\x80\x00", "\xff\xff\xff\xff\xff\xff\xff\xff\xff\x00",
		// A number of more than 64 bits.
		"\x80\x80\x80\x80\x80\x80\x80\x80\x80\x02", "\x80\x80\x80\x80\x80\x80\x80\x80\x80\x03", "\x81\x80\x80\x80\x80\x80\x80\x80\x80\x02",
		"\xff\xff\xff\xff\xff\xff\xff\xff\xff\x02", "\xff\xff\xff\xff\xff\xff\xff\xff\xff\x03", "\xff\xff\xff\xff\xff\xff\xff\xff\xff\x7f",
		"\x80\x80\x80\x80\x80\x80\x80\x80\x80\x40", "\x80\x80\x80\x80\x80\x80\x80\x80\x80\x80", "\xff\xff\xff\xff\xff\xff\xff\xff\xff\xff",
		"\x80\x80\x80\x80\x80\x80\x80\x80\x80\x80\x01", "\x80\x80\x80\x80\x80\x80\x80\x80\x80\x81\x00", "\x80\x80\x80\x80\x80\x80\x80\x80\x80\x81\x01",
		"\xff\xff\xff\xff\xff\xff\xff\xff\xff\x81\x00", "\xff\xff\xff\xff\xff\xff\xff\xff\xff\xff\x01", "\x80\x80\x80\x80\x80\x80\x80\x80\x80\x80\x80\x80\x80\x80\x01",
	} {
		checkShort(t, []byte(s), 0, 0)
	}
	checkShort(t, nil, 0, 0)
	checkShort(t, bytes.Repeat([]byte{0x80}, 1<<20), 0, 0)
	checkShort(t, bytes.Repeat([]byte{0xff}, 1<<20), 0, 0)
}

// exactShort reads short bytes by exact numbers, as the document's words have them.
func exactShort(b []byte) (uint64, int) {
	exact := new(big.Int)
	for i, c := range b {
		part := big.NewInt(int64(c % 128))
		exact.Add(exact, part.Lsh(part, uint(7*i)))
		if c >= 128 {
			continue
		}
		if c == 0 && i > 0 || !exact.IsUint64() {
			return 0, 0
		}
		return exact.Uint64(), i + 1
	}
	return 0, 0
}

func TestReadShortOfAllOfThree(t *testing.T) {
	for i := range 1 << 16 {
		for _, last := range []byte{0, 1, 0x40, 0x7f, 0x80, 0xff} {
			b := []byte{byte(i), byte(i >> 8), last}
			n, k := exactShort(b)
			checkShort(t, b, n, k)
		}
	}
}

// checkAnything: whatever comes begins with a number's short bytes, or it is none.
func checkAnything(t *testing.T, b []byte) {
	before := bytes.Clone(b)
	n, k := exactShort(b)
	checkShort(t, b, n, k)
	if k > 0 && !bytes.Equal(bits.Short(n), b[:k]) {
		t.Errorf("ReadShort(%x): %d, whose short bytes are %x", b, n, bits.Short(n))
	}
	if !bytes.Equal(b, before) {
		t.Errorf("ReadShort(%x) made %x of it", before, b)
	}
}

func TestReadShortOfAnything(t *testing.T) {
	random := rand.New(rand.NewSource(3))
	for range 200000 {
		b := make([]byte, random.Intn(13))
		for i := range b {
			b[i] = []byte{0, 1, 2, 0x7f, 0x80, 0x81, 0xff, byte(random.Intn(256)) | 0x80}[max(random.Intn(10)-2, 0)]
			if random.Intn(3) > 0 {
				b[i] |= 0x80
			}
		}
		checkAnything(t, b)
	}
}

func TestReadShortUndoesShort(t *testing.T) {
	random := rand.New(rand.NewSource(4))
	for i := range 200000 {
		n := random.Uint64() >> random.Intn(64)
		if i < 70000 {
			n = uint64(i)
		}
		b := bits.Short(n)
		checkShort(t, b, n, len(b))
	}
	var row []byte
	for place := range 64 {
		row = append(row, bits.Short(1<<place)...)
	}
	for place := range 64 {
		n, k := bits.ReadShort(row)
		if n != 1<<place || k != place/7+1 {
			t.Fatalf("in a row: %d %d, not %d", n, k, uint64(1)<<place)
		}
		row = row[k:]
	}
}

// TestShortIsNew: each answer has its own memory, its spare room too.
func TestShortIsNew(t *testing.T) {
	for text, n := range shorts() {
		first, second := bits.Short(n), bits.Short(n)
		all := first[:cap(first)]
		for i := range all {
			all[i] = 0xaa
		}
		if string(second) != text || string(bits.Short(n)) != text {
			t.Errorf("two answers of Short(%d) share memory", n)
		}
	}
}

func FuzzReadShort(f *testing.F) {
	for s := range shorts() {
		f.Add([]byte(s))
	}
	f.Add([]byte("\x80\x00"))
	f.Add([]byte("\xff\xff\xff\xff\xff\xff\xff\xff\xff\x02"))
	f.Fuzz(checkAnything)
}
