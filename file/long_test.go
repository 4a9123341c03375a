package file_test

import (
	"encoding/binary"
	"hash/crc32"
	"math/rand"
	"runtime/debug"
	"slices"
	"strings"
	"testing"

	"grist/api"
	"grist/file"
)

// TestMostPoints: P12.1, a column has at most 1000000 points, in 1000 blocks.
func TestMostPoints(t *testing.T) {
	t.Parallel()
	all := points(slices.Repeat(many(api.Boolean, 1000), 1001), -5000, 1)
	full := column("s", "f", all[:1000000])
	b := must(t, []api.Column{full})
	checkBoth(t, []api.Column{full}, b)
	checkFind(t, b, []api.Column{full}, "s", "f", 994990, 1000000)
	for _, n := range []int{1000001, 1000002, 1001000} {
		for _, list := range beside(column("s", "f", all[:n])) {
			checkRefused(t, list, api.ErrArg)
		}
		body, entries, _ := partsOf([]api.Column{column("s", "f", all[:n])})
		if len(entries[0].places) != 1001 {
			t.Fatal(len(entries[0].places))
		}
		checkNone(t, fileOf(body, indexOf(entries...)))
	}
}

// TestMostColumns: P12.1, there are at most MostColumns of them.
func TestMostColumns(t *testing.T) {
	t.Parallel()
	var list []api.Column
	for i := range api.MostColumns + 1 {
		name := string(binary.BigEndian.AppendUint32(nil, uint32(i)))
		list = append(list, column(name[:2], name[2:], []api.Point{{Time: int64(-i), Value: api.Value{Kind: api.Boolean}}}))
	}
	checkRefused(t, list, api.ErrArg)
	body, entries, _ := partsOf(list)
	b := fileOf(body, indexOf(entries...))
	if list, e := file.Decode(b); e != api.ErrForm || len(list) != 0 {
		t.Error(len(list), e)
	}
	last := api.MostColumns - 1
	b = fileOf(body[:entries[last+1].places[0].begin-5], indexOf(entries[:last+1]...))
	checkEncode(t, list[:last+1], b)
	checkDecode(t, b, list[:last+1])
	checkFind(t, b, list[last:last+1], list[last].Series, list[last].Field, least, most)
}

// TestMostBytes: P12.1, a file has fewer than 2^30 bytes.
func TestMostBytes(t *testing.T) {
	t.Parallel()
	// Memory goes back soon: these files are long.
	defer debug.SetGCPercent(debug.SetGCPercent(20))
	checkRefused(t, listOfSize(1<<30), api.ErrLong)
	checkRefused(t, listOfSize(1<<30+1), api.ErrLong)
	list := listOfSize(1<<30 - 1)
	b, e := file.Encode(list)
	if e != api.OK || len(b) != 1<<30-1 {
		t.Fatal(len(b), e)
	}
	last := list[len(list)-1]
	checkFind(t, b, list[len(list)-1:], last.Series, last.Field, least, most)
	b = longer(b, last.Field)
	if len(b) != 1<<30 {
		t.Fatal(len(b))
	}
	if list, e := file.Decode(b); e != api.ErrForm || len(list) != 0 {
		t.Error(short(list), e)
	}
	if points, e := file.Find(b, last.Series, last.Field+"z", least, most); e != api.ErrForm || len(points) != 0 {
		t.Error(points, e)
	}
}

// TestListOfSize: the two means of TestMostBytes, with less to do.
func TestListOfSize(t *testing.T) {
	for _, size := range []int{20000, 65535, 65536, 1 << 20, 1<<20 + 1} {
		list := listOfSize(size)
		b := must(t, list)
		if len(b) != size {
			t.Errorf("%d bytes, not %d", len(b), size)
		}
		checkBoth(t, list, b)
		last := &list[len(list)-1]
		more := longer(b, last.Field)
		last.Field += "z"
		checkBoth(t, list, more)
	}
}

// listOfSize is a list whose file has so many bytes, mostly names.
func listOfSize(size int) []api.Column {
	const bare = 21 + 2 + 2 + 4 + 24 // bytes of a column without names: its block, and what the index says
	left := size - 13
	var fields []string
	noise := make([]byte, 4000+left/8000)
	rand.New(rand.NewSource(3)).Read(noise)
	text := string(noise)
	for ; left > 16000; left -= bare + 8000 {
		fields = append(fields, text[len(fields):][:4000])
	}
	slices.Sort(fields)
	var list []api.Column
	for _, field := range fields {
		list = append(list, one(text[:4000], field))
	}
	// Four more columns, as long together as what is left.
	left -= 4 * (bare + 4)
	for n := 4; n > 0; n-- {
		part := left / n
		left -= part
		list = append(list, one("\xff\xff\xff"+string(rune('z'-n)), strings.Repeat("y", part)))
	}
	return list
}

// longer is a file with a "z" more behind the last column's field, whose only block is the last one.
func longer(b []byte, field string) []byte {
	end := len(b) - 8
	behind := end - 24 - 4 // the field
	index := binary.BigEndian.Uint32(b[end:])
	more := make([]byte, len(b)+1)
	copy(more, b[:behind])
	binary.BigEndian.PutUint16(more[behind-len(field)-2:], uint16(len(field)+1))
	more[behind] = 'z'
	copy(more[behind+1:], b[behind:])
	binary.BigEndian.PutUint32(more[end+5:], crc32.ChecksumIEEE(more[index:end+1]))
	return more
}
