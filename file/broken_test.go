package file_test

import (
	"bytes"
	"encoding/binary"
	"hash/crc32"
	"math"
	"math/rand"
	"slices"
	"strings"
	"testing"

	"grist/api"
	"grist/block"
)

// TestDecodeOfTooFewOrManyBytes: P12.1, nothing is cut off or stands beside a file.
func TestDecodeOfTooFewOrManyBytes(t *testing.T) {
	checkNone(t, nil)
	checkNone(t, []byte{})
	for _, list := range someLists() {
		b := must(t, list)
		step := 1 + len(b)/500
		for i := 0; i < len(b); i += step {
			checkNone(t, b[:i])
			checkNone(t, b[i+1:])
			checkNone(t, slices.Concat(b[:i], b[i+1:]))
			checkNone(t, slices.Concat(b[:i], []byte{0}, b[i:]))
		}
		for i := 1; i <= 40; i++ {
			for _, fill := range []byte{0, 0xff} {
				filling := bytes.Repeat([]byte{fill}, i)
				checkNone(t, slices.Concat(b, filling))
				checkNone(t, slices.Concat(filling, b))
			}
		}
		checkNone(t, slices.Concat(b, b))
		checkNone(t, slices.Concat(b[:len(b)-8], b[:len(b)-8], b[len(b)-8:]))
	}
	for n := range 60 {
		for fill := range 256 {
			checkNone(t, bytes.Repeat([]byte{byte(fill)}, n))
		}
	}
	checkNone(t, make([]byte, 1<<20))
	checkNone(t, append([]byte("GRST1"), make([]byte, 1<<20)...))
}

// TestDecodeOfChangedBytes makes each byte another one.
func TestDecodeOfChangedBytes(t *testing.T) {
	t.Parallel()
	for _, list := range someLists() {
		b := must(t, list)
		step := 1 // all of them, but for long files
		if len(b) > 1000 {
			step = 8*len(b)/600 + 1
		}
		for bit := 0; bit < 8*len(b); bit += step {
			changed := bytes.Clone(b)
			changed[bit/8] ^= 128 >> (bit % 8)
			checkNone(t, changed)
		}
	}
	b := must(t, []api.Column{one("s", "f")})
	for i := range b {
		for more := 1; more < 256; more++ {
			changed := bytes.Clone(b)
			changed[i] += byte(more)
			checkNone(t, changed)
		}
	}
}

// TestDecodeOfAnotherMark: a file begins with just these bytes.
func TestDecodeOfAnotherMark(t *testing.T) {
	for _, list := range someLists() {
		b := must(t, list)
		for _, mark := range []string{"grst1", "GRST0", "GRST2", "GRST ", "GRST\x01", "GRS1T", "1TSRG", "\x00\x00\x00\x00\x00", "TRST1"} {
			checkNone(t, append([]byte(mark), b[5:]...))
		}
	}
}

// TestDecodeOfAnotherEnd: the index begins where the blocks end, and has one sum alone, the highest byte of each first.
func TestDecodeOfAnotherEnd(t *testing.T) {
	for _, list := range someLists() {
		b := must(t, list)
		end := len(b) - 8
		at := binary.BigEndian.Uint32(b[end:])
		sum := binary.BigEndian.Uint32(b[end+4:])
		ended := func(at, sum uint32) []byte {
			changed := binary.BigEndian.AppendUint32(bytes.Clone(b[:end]), at)
			return binary.BigEndian.AppendUint32(changed, sum)
		}
		for _, other := range []uint32{0, ^sum, sum + 1, sum - 1, sum ^ 1<<31, math.MaxUint32, crc32.ChecksumIEEE(b[:end]), crc32.ChecksumIEEE(b[at : end+4])} {
			if other != sum {
				checkNone(t, ended(at, other))
			}
		}
		// Wherever else the index would begin, with the sum of what stands there.
		for other := 0; other <= len(b); other += 1 + len(b)/700 {
			if uint32(other) != at {
				checkNone(t, ended(uint32(other), crc32.ChecksumIEEE(b[min(other, end):end])))
				checkNone(t, ended(uint32(other), sum))
			}
		}
		for _, other := range []uint32{0, 1, 4, 5, 6, at - 1, at + 1, uint32(end) - 1, uint32(end), uint32(end) + 1, uint32(end) + 4, uint32(len(b)), at << 8, at << 24, at + 1<<31, 1 << 30, 1 << 31, math.MaxUint32 - 7, math.MaxUint32} {
			if other != at {
				checkNone(t, ended(other, crc32.ChecksumIEEE(b[min(other, uint32(end)):end])))
				checkNone(t, ended(other, sum))
			}
		}
		// The lowest byte first, and the two numbers the other way round.
		checkBytes(t, binary.LittleEndian.AppendUint32(bytes.Clone(b[:end+4]), sum))
		checkBytes(t, slices.Concat(b[:end], b[end+4:], b[end:end+4]))
		checkNone(t, binary.BigEndian.AppendUint32(binary.LittleEndian.AppendUint32(bytes.Clone(b[:end]), at), sum))
	}
}

// lie is a file whose index says something else, with the right sum: it isn't one.
func lie(t *testing.T, list []api.Column, change func(entries []entry)) {
	t.Helper()
	body, entries, e := partsOf(list)
	if e != api.OK {
		t.Fatal(e)
	}
	right := indexOf(entries...)
	checkBytes(t, fileOf(body, right))
	change(entries)
	wrong := fileOf(body, indexOf(entries...))
	if bytes.Equal(wrong, fileOf(body, right)) {
		t.Fatal("nothing was changed")
	}
	checkNone(t, wrong)
}

// TestDecodeOfLies: each number that the index has of a block is the block's own.
func TestDecodeOfLies(t *testing.T) {
	t.Parallel()
	for _, list := range someLists() {
		for i, c := range list {
			for j := range blocksIn(c) {
				for _, by := range []int64{1, -1000, 1 << 32, least} {
					lie(t, list, func(x []entry) { x[i].places[j].first += by })
					lie(t, list, func(x []entry) { x[i].places[j].last += by })
					lie(t, list, func(x []entry) { x[i].places[j].first += by; x[i].places[j].last += by })
				}
				for _, by := range []uint32{1, math.MaxUint32, 21, 1 << 24, 1 << 31} {
					lie(t, list, func(x []entry) { x[i].places[j].begin += by })
					lie(t, list, func(x []entry) { x[i].places[j].size += by })
					lie(t, list, func(x []entry) { x[i].places[j].begin += by; x[i].places[j].size -= by })
				}
				lie(t, list, func(x []entry) { x[i].places[j].size = 0 })
				lie(t, list, func(x []entry) { x[i].places[j].begin -= 5 })
			}
		}
	}
}

func blocksIn(c api.Column) int { return (len(c.Points) + 999) / 1000 }

// TestDecodeOfOtherCounts: a column has as many blocks as the index says.
func TestDecodeOfOtherCounts(t *testing.T) {
	for _, list := range someLists() {
		for i := range list {
			for _, by := range []uint32{1, math.MaxUint32, 2, 256, 1000, 1 << 16, 1 << 31} {
				lie(t, list, func(x []entry) { x[i].count += by })
			}
			lie(t, list, func(x []entry) { x[i].count = 0 })
			lie(t, list, func(x []entry) { x[i].count, x[i].places = 0, nil })
			lie(t, list, func(x []entry) { x[i].count, x[i].places = x[i].count-1, x[i].places[1:] })
			lie(t, list, func(x []entry) {
				x[i].count, x[i].places = x[i].count+1, append(x[i].places, x[i].places[len(x[i].places)-1])
			})
		}
	}
}

// TestDecodeOfOtherColumns: the index has all columns, each one once, rising, and nothing else.
func TestDecodeOfOtherColumns(t *testing.T) {
	for _, list := range someLists() {
		body, entries, _ := partsOf(list)
		index := indexOf(entries...)
		for i := range entries {
			checkNone(t, fileOf(body, indexOf(slices.Delete(slices.Clone(entries), i, i+1)...)))
			checkNone(t, fileOf(body, indexOf(slices.Insert(slices.Clone(entries), i, entries[i])...)))
			for j := range i {
				swapped := slices.Clone(entries)
				swapped[i], swapped[j] = swapped[j], swapped[i]
				checkNone(t, fileOf(body, indexOf(swapped...)))
				// Like names, and names that fall.
				swapped = slices.Clone(entries)
				swapped[i].series, swapped[i].field = entries[j].series, entries[j].field
				checkNone(t, fileOf(body, indexOf(swapped...)))
				swapped[j].series, swapped[j].field = entries[i].series, entries[i].field
				checkNone(t, fileOf(body, indexOf(swapped...)))
			}
		}
		checkNone(t, fileOf(body, append(bytes.Clone(index), 0)))
		checkNone(t, fileOf(body, append(bytes.Clone(index), make([]byte, 8)...)))
		checkNone(t, fileOf(body, append(bytes.Clone(index), make([]byte, 32)...)))
		for i := 0; i < len(index); i += 1 + len(index)/60 {
			checkNone(t, fileOf(body, index[:i]))
			checkNone(t, fileOf(body, index[i+1:]))
			checkNone(t, fileOf(body, append(bytes.Clone(index), index[i:]...)))
		}
	}
}

// TestDecodeOfOtherBlocks: the blocks fill all between the mark and the index, in the index's order, without gaps and none twice.
func TestDecodeOfOtherBlocks(t *testing.T) {
	list := []api.Column{one("a", "f"), one("b", "f"), column("c", "f", points(many(api.Integer, 2001), 0, 1))}
	body, entries, _ := partsOf(list)
	index := indexOf(entries...)
	for _, more := range []string{"\x00", "\xff\xff", string(body[:21])} {
		checkNone(t, fileOf(append(bytes.Clone(body), more...), index))
		// All is further behind, as the index says then too.
		moved := slices.Clone(entries)
		for i, x := range moved {
			moved[i].places = slices.Clone(x.places)
			for j := range x.places {
				moved[i].places[j].begin += uint32(len(more))
			}
		}
		checkNone(t, fileOf(append([]byte(more), body...), indexOf(moved...)))
		checkNone(t, fileOf(append([]byte(more), body...), index))
		// A gap ahead of one block alone.
		moved[0].places[0].begin = 5
		checkNone(t, fileOf(slices.Concat(body[:21], []byte(more), body[21:]), indexOf(moved...)))
	}
	// Two columns whose points are like have a block each.
	twice := slices.Clone(entries)
	twice[1].places = twice[0].places
	checkNone(t, fileOf(body, indexOf(twice...)))
	for i := range twice[2].places {
		twice[2].places[i].begin -= 21
	}
	checkNone(t, fileOf(body[21:], indexOf(twice...)))
	// The blocks in another order than the columns.
	unlike := []api.Column{one("a", "f"), column("b", "f", points(values(api.Boolean, 0), 5, 1))}
	body, entries, _ = partsOf(unlike)
	checkBytes(t, fileOf(body, indexOf(entries...)))
	entries[0].places, entries[1].places = entries[1].places, entries[0].places
	checkNone(t, fileOf(body, indexOf(entries...)))
}

// TestDecodeOfBlocksInTheIndex: where a block ends like the index begins, these bytes aren't both.
func TestDecodeOfBlocksInTheIndex(t *testing.T) {
	for _, shared := range []int{1, 2} {
		n := 0
		list := []api.Column{one("", "f")}
		body, entries, _ := partsOf(list)
		for ; !bytes.HasSuffix(body, make([]byte, shared)); n++ {
			list[0].Points[0].Time = int64(n)
			body, entries, _ = partsOf(list)
		}
		index := indexOf(entries...)
		checkBoth(t, list, fileOf(body, index))
		checkNone(t, fileOf(body[:len(body)-shared], index))
		checkNone(t, fileOf(body, index[shared:]))
	}
}

// fileOfParts is a file with one column of these blocks, whatever points they have.
func fileOfParts(t *testing.T, series, field string, parts ...[]api.Point) []byte {
	t.Helper()
	var body []byte
	x := entry{series: series, field: field, count: uint32(len(parts))}
	for _, part := range parts {
		b, e := block.Encode(part)
		if e != api.OK {
			t.Fatal(e)
		}
		x.places = append(x.places, place{part[0].Time, part[len(part)-1].Time, uint32(5 + len(body)), uint32(len(b))})
		body = append(body, b...)
	}
	return fileOf(body, indexOf(x))
}

// TestDecodeOfOtherParts: each block but the last one has MostBlock points.
func TestDecodeOfOtherParts(t *testing.T) {
	all := points(many(api.Integer, 3000), 0, 1)
	checkDecode(t, fileOfParts(t, "s", "f", all[:1000], all[1000:2000], all[2000:]), []api.Column{column("s", "f", all)})
	checkDecode(t, fileOfParts(t, "s", "f", all[:1000], all[1000:1001]), []api.Column{column("s", "f", all[:1001])})
	for _, n := range []int{1, 2, 500, 998, 999} {
		checkNone(t, fileOfParts(t, "s", "f", all[:n], all[n:1000]))
		checkNone(t, fileOfParts(t, "s", "f", all[:n], all[n:n+1000]))
		checkNone(t, fileOfParts(t, "s", "f", all[:n], all[n:n+1]))
		checkNone(t, fileOfParts(t, "s", "f", all[:1000], all[1000:1000+n], all[1000+n:2000]))
		checkNone(t, fileOfParts(t, "s", "f", all[:1000], all[1000:1000+n], all[1000+n:1001+n]))
	}
}

// TestDecodeOfPartsApart: blocks that each are whole needn't be those of one column.
func TestDecodeOfPartsApart(t *testing.T) {
	for _, kind := range kinds {
		all := points(many(kind, 2000), 0, 10)
		for _, first := range []int64{9990, 9989, 0, -1, -10000, -20000, least} {
			checkNone(t, fileOfParts(t, "s", "f", all[:1000], points(many(kind, 1000), first, 10)))
			checkNone(t, fileOfParts(t, "s", "f", all[:1000], points(many(kind, 1), first, 10)))
		}
		checkNone(t, fileOfParts(t, "s", "f", all[1000:], all[:1000]))
		checkNone(t, fileOfParts(t, "s", "f", all[:1000], all[:1000]))
		next := points(many(kind, 3), 9991, 10)
		checkDecode(t, fileOfParts(t, "s", "f", all[:1000], next), []api.Column{column("s", "f", append(all[:1000:1000], next...))})
		for _, other := range kinds {
			b := fileOfParts(t, "s", "f", all[:1000], points(many(other, 1000), 10000, 10), points(many(kind, 5), 20000, 10))
			checkBytes(t, b)
			if other != kind {
				checkNone(t, b)
				checkNone(t, fileOfParts(t, "s", "f", all[:1000], all[1000:], points(many(other, 1), 20000, 10)))
			}
		}
	}
}

// TestDecodeOfLongNames: no more than 4000 bytes, also where two bytes could say more.
func TestDecodeOfLongNames(t *testing.T) {
	all := points(values(api.Boolean, 1), 5, 1)
	for _, n := range []int{3999, 4000, 4001, 4096, 5000, 40000, 65535} {
		text := strings.Repeat("x", n)
		for _, b := range [][]byte{fileOfParts(t, text, "f", all), fileOfParts(t, "s", text, all), fileOfParts(t, text, text, all)} {
			checkBytes(t, b)
			if n > 4000 {
				checkNone(t, b)
			}
		}
	}
}

// TestDecodeOfFaultyBlocks: a block with a fault is one, whatever the index says.
func TestDecodeOfFaultyBlocks(t *testing.T) {
	list := []api.Column{one("a", "f"), one("b", "f"), one("c", "f")}
	body, entries, _ := partsOf(list)
	for bit := range 8 * len(body) {
		changed := bytes.Clone(body)
		changed[bit/8] ^= 128 >> (bit % 8)
		checkNone(t, fileOf(changed, indexOf(entries...)))
	}
	for size := range 30 {
		x := entry{"s", "f", 1, []place{{5, 5, 5, uint32(size)}}}
		checkNone(t, fileOf(make([]byte, size), indexOf(x)))
	}
}

// TestDecodeOfAnything: whatever bytes come, also with the right mark and the right sum.
func TestDecodeOfAnything(t *testing.T) {
	random := rand.New(rand.NewSource(2))
	body, entries, _ := partsOf([]api.Column{one("a", "f"), one("b", "f")})
	index := indexOf(entries...)
	for range 60000 {
		b := make([]byte, random.Intn(80))
		random.Read(b)
		checkBytes(t, b)
		checkBytes(t, append([]byte("GRST1"), b...))
		split := random.Intn(len(b) + 1)
		checkBytes(t, fileOf(b[:split], b[split:]))
		clear(b[:random.Intn(len(b)+1)])
		checkBytes(t, fileOf(nil, b))
		changed := bytes.Clone(index)
		for range 1 + random.Intn(3) {
			changed[random.Intn(len(changed))] = byte(random.Intn(256) >> random.Intn(8))
		}
		checkBytes(t, fileOf(body, changed))
	}
}

func FuzzDecode(f *testing.F) {
	for _, list := range someLists()[:5] {
		body, entries, _ := partsOf(list)
		f.Add(body, indexOf(entries...))
	}
	f.Fuzz(func(t *testing.T, body, index []byte) {
		checkBytes(t, fileOf(body, index))
		checkBytes(t, body)
		checkBytes(t, append([]byte("GRST1"), index...))
	})
}
