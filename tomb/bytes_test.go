package tomb_test

import (
	"bytes"
	"math/rand"
	"slices"
	"testing"

	"grist/api"
	"grist/tomb"
)

// TestBytes: P13.1, written out.
func TestBytes(t *testing.T) {
	for _, x := range []struct {
		tomb tomb.Tomb
		b    string
	}{
		{tomb.Tomb{}, "\x00\x00" + "\x00\x00" + "\x00\x00\x00\x00\x00\x00\x00\x00" + "\x00\x00\x00\x00\x00\x00\x00\x00"},
		{tomb.Tomb{Series: "s", To: 9}, "\x00\x01s" + "\x00\x00" + "\x00\x00\x00\x00\x00\x00\x00\x00" + "\x00\x00\x00\x00\x00\x00\x00\x09"},
		{tomb.Tomb{Field: "f", From: 1}, "\x00\x00" + "\x00\x01f" + "\x00\x00\x00\x00\x00\x00\x00\x01" + "\x00\x00\x00\x00\x00\x00\x00\x00"},
		{tomb.Tomb{Series: "cpu,host=a", Field: "busy", From: -1, To: 0x0102030405060708}, "\x00\x0acpu,host=a" + "\x00\x04busy" + "\xff\xff\xff\xff\xff\xff\xff\xff" + "\x01\x02\x03\x04\x05\x06\x07\x08"},
		{tomb.Tomb{Series: "\x00\xff", Field: "\xfe", From: least, To: most}, "\x00\x02\x00\xff" + "\x00\x01\xfe" + "\x80\x00\x00\x00\x00\x00\x00\x00" + "\x7f\xff\xff\xff\xff\xff\xff\xff"},
		{tomb.Tomb{Series: "é", From: 5, To: -258}, "\x00\x02\xc3\xa9" + "\x00\x00" + "\x00\x00\x00\x00\x00\x00\x00\x05" + "\xff\xff\xff\xff\xff\xff\xfe\xfe"},
	} {
		checkEncode(t, []byte(x.b), x.tomb)
		checkDecode(t, []byte(x.b), x.tomb)
		checkEncode(t, []byte(x.b+x.b), x.tomb, x.tomb)
		checkDecode(t, []byte(x.b+x.b+x.b), x.tomb, x.tomb, x.tomb)
	}
	checkEncode(t, nil)
	checkDecode(t, nil)
	checkDecode(t, []byte{})
}

// TestLists: P13.1, there and back, in their order, whatever they say: alike ones, and such that end ahead of their beginning.
func TestLists(t *testing.T) {
	checkList(t, tomb.Tomb{Series: "b", From: 9, To: 0}, tomb.Tomb{Series: "a", Field: "f"}, tomb.Tomb{Series: "b", From: 9, To: 0}, tomb.Tomb{From: most, To: least})
	random := rand.New(rand.NewSource(1))
	for range 5000 {
		checkList(t, someTombs(random, 6)...)
	}
	checkList(t, someTombs(random, 20000)...)
}

// TestLongTexts: P13.1, 4000 bytes are taken in each text, more are not.
func TestLongTexts(t *testing.T) {
	plain := tomb.Tomb{Series: "s", Field: "f", From: 1, To: 2}
	for _, n := range []int{0, 1, 255, 256, 257, 511, 512, 3999, 4000} {
		for _, x := range ofLength(n) {
			checkList(t, x)
			checkList(t, plain, x, plain)
		}
	}
	for _, n := range []int{4001, 4095, 4096, 5000, 1<<15 - 1, 1 << 15, 1<<16 - 1, 1 << 16, 1<<16 + 1, 1<<16 + 4000, 1 << 20} {
		for _, x := range ofLength(n) {
			checkRefused(t, x)
			checkRefused(t, plain, x)
			checkRefused(t, x, plain)
			checkRefused(t, plain, plain, x, plain)
			if n < 1<<16 {
				checkNone(t, bytesOf(x))
				checkNone(t, bytesOf(plain, x))
				checkNone(t, bytesOf(x, plain))
			}
		}
	}
}

// ofLength are tombs of which one text has that many bytes, or both have.
func ofLength(n int) []tomb.Tomb {
	return []tomb.Tomb{{Series: long(n), From: 1, To: 2}, {Field: long(n), From: 1, To: 2}, {Series: long(n), Field: "f"}, {Series: long(n), Field: long(n)}}
}

// TestDecodeOfTooFewOrManyBytes: P13.1, there are whole tombs alone.
func TestDecodeOfTooFewOrManyBytes(t *testing.T) {
	list := []tomb.Tomb{{Series: "cpu,host=a", Field: "f", From: 1, To: 2}, {}, {Series: "s", From: -1, To: 9}, {Field: "f"}, {Series: long(300), Field: long(40)}}
	b := bytesOf(list...)
	whole := map[int]int{} // how many bytes so many tombs have
	for n := range list {
		whole[len(bytesOf(list[:n]...))] = n
	}
	for i := range b {
		if n, is := whole[i]; is {
			checkDecode(t, b[:i], list[:n]...)
			checkDecode(t, b[i:], list[n:]...)
		} else {
			checkNone(t, b[:i])
		}
		checkBytes(t, b[i:])
		checkBytes(t, slices.Concat(b[:i], b[i+1:]))
		checkBytes(t, slices.Concat(b[:i], []byte{0}, b[i:]))
	}
	for n := 1; n < 20; n++ {
		checkNone(t, slices.Concat(b, make([]byte, n)))
		checkNone(t, make([]byte, n))
		checkNone(t, bytes.Repeat([]byte{0xff}, n))
	}
	checkDecode(t, make([]byte, 40), tomb.Tomb{}, tomb.Tomb{})
}

// TestDecodeOfLies: P13.1, a text has as many bytes as is said, and there are so many.
func TestDecodeOfLies(t *testing.T) {
	x := tomb.Tomb{Series: "series", Field: "field", From: 1, To: 2}
	for _, by := range []int{-5, -1, 1, 2, 16, 17, 18, 256, 4000, 1 << 15, 1<<16 - 6} {
		checkBytes(t, tombBytes(x, 6+by, 5))
		checkBytes(t, tombBytes(x, 6, 5+by))
		checkBytes(t, slices.Concat(tombBytes(x, 6, 5+by), bytesOf(x, x, x)))
		checkNone(t, slices.Concat(bytesOf(x), tombBytes(x, 6, 5+by)))
	}
	// The lowest byte first.
	checkNone(t, []byte("\x01\x00s"+"\x00\x00"+"\x00\x00\x00\x00\x00\x00\x00\x00"+"\x00\x00\x00\x00\x00\x00\x00\x09"))
	// What is said is there, but nothing behind it.
	checkNone(t, append([]byte("\x0f\xa0"), long(4000)...))
	checkNone(t, append([]byte("\x00\x00\x0f\xa0"), long(4000)...))
	checkNone(t, append([]byte("\x00\x00\x0f\xa0"), long(4015)...))
	checkDecode(t, append([]byte("\x00\x00\x0f\xa0"), long(4016)...), tomb.Tomb{Field: long(4000), From: 0x7878787878787878, To: 0x7878787878787878})
}

// TestDecodeOfAnything: P13.1, whatever bytes come.
func TestDecodeOfAnything(t *testing.T) {
	random := rand.New(rand.NewSource(2))
	found := 0
	for range 100000 {
		b := make([]byte, random.Intn(90))
		random.Read(b)
		for i := range b {
			b[i] >>= random.Intn(9)
		}
		if random.Intn(2) == 0 {
			b = bytesOf(someTombs(random, 4)...)
		}
		for range random.Intn(3) {
			if len(b) > 0 {
				b[random.Intn(len(b))] = byte(random.Intn(256) >> random.Intn(8))
			}
		}
		checkBytes(t, b)
		if _, is := told(b); is {
			found++
		}
	}
	if found < 1000 {
		t.Error("too few of the bytes were those of a list:", found)
	}
}

func FuzzDecode(f *testing.F) {
	random := rand.New(rand.NewSource(3))
	for range 20 {
		f.Add(bytesOf(someTombs(random, 3)...))
	}
	f.Fuzz(func(t *testing.T, b []byte) {
		checkBytes(t, b)
	})
}

// TestBytesStay: R2, R3, what is handed in isn't changed, nor its spare room; each answer has its own memory, and nothing hangs on what becomes of either.
func TestBytesStay(t *testing.T) {
	list := []tomb.Tomb{{Series: "s", Field: "f", From: 2, To: 3}, {Series: "t", From: -1, To: 9}}
	want := bytesOf(list...)
	room := append(slices.Clone(list), make([]tomb.Tomb, 5)...)
	first, e := tomb.Encode(room[:2])
	second, _ := tomb.Encode(room[:2])
	if e != api.OK || !slices.Equal(room, append(slices.Clone(list), make([]tomb.Tomb, 5)...)) {
		t.Fatalf("the list is %s now", short(room))
	}
	clear(room)
	clear(first[:cap(first)])
	if !bytes.Equal(second, want) {
		t.Errorf("the answer is %s now", short(second))
	}
	around := slices.Concat([]byte{9}, want, bytes.Repeat([]byte{9}, 50))
	before := bytes.Clone(around)
	one, _ := tomb.Decode(around[1 : 1+len(want)])
	other, _ := tomb.Decode(around[1 : 1+len(want)])
	if !bytes.Equal(around, before) {
		t.Errorf("the bytes are %s now", short(around))
	}
	clear(around)
	clear(one[:cap(one)])
	if !slices.Equal(other, list) {
		t.Errorf("the answer is %s now", short(other))
	}
	checkList(t, list...)
}
