package wal_test

import (
	"math"
	"math/rand"
	"slices"
	"strings"
	"testing"

	"grist/api"
	"grist/disk"
	"grist/wal"
)

func checkErrno(t *testing.T, e, want api.Errno) {
	t.Helper()
	if e != want {
		t.Fatalf("%v, not %v", e, want)
	}
}

// TestExamples: the document's own.
func TestExamples(t *testing.T) {
	two := newPair(t, 1000)
	two.run(t, add("a"), add("b"))
	two.crash(t, step{})
	check(t, two.l, plain{entries: []string{"a", "b"}})
	checkErrno(t, two.l.Trim(1), api.OK)
	if two.l.First() != 1 {
		t.Error(two.l.First())
	}
	_, e := two.l.Get(0)
	checkErrno(t, e, api.ErrRange)
	b, e := two.l.Get(1)
	if string(b) != "b" || e != api.OK {
		t.Error(b, e)
	}
}

// TestOpen: P10.1, of no disk, one that is down, and a new one, with however little room.
func TestOpen(t *testing.T) {
	down := disk.New(100)
	down.Append("a", nil)
	down.SetFuse(0)
	down.Sync("a")
	for _, d := range []*disk.Disk{nil, down} {
		l, e := wal.Open(d)
		if l != nil || e != api.ErrLost {
			t.Errorf("Open: %v, %v", l, e)
		}
	}
	for _, room := range []int{1000, 1, 0, -1} {
		newPair(t, room)
	}
	down.Restart(nil)
	check(t, opened(t, down), plain{})
}

// TestNil: P10.5, a nil log is over and has no entries.
func TestNil(t *testing.T) {
	var l *wal.Log
	checkOver(t, l, plain{over: true})
	// One that was never opened doesn't panic either, and nothing that it answers is lost.
	l = &wal.Log{}
	check(t, l, plain{})
	checkErrno(t, l.Append(nil), api.ErrArg)
	checkErrno(t, l.Trim(1), api.ErrRange)
	checkErrno(t, l.Append([]byte("a")), api.ErrLost)
	checkOver(t, l, plain{})
}

// TestAppend: P10.2, at the edges of an entry's length.
func TestAppend(t *testing.T) {
	two := newPair(t, 1<<30)
	long := strings.Repeat("0123456789abcdef", mostBytes/16)
	two.run(t, add(""), add("a"), add("\x00"), add("\n"), add("\xff\x00"), add("a"), add(""))
	two.run(t, add(long[1:]), add(long), add(long+"!"), add(long+long), add("b"))
	if two.p.next() != 8 {
		t.Fatal("not 8 entries")
	}
	two.crash(t, step{})
	two.run(t, add(long+"!"), add("c"), trim(6), add(long))
	two.crash(t, step{}, 255)
	checkErrno(t, two.l.Append(nil), api.ErrArg)
	checkErrno(t, two.l.Append([]byte{}), api.ErrArg)
}

// TestTrim: P10.2, from and to every place, and beyond.
func TestTrim(t *testing.T) {
	for many := range 5 {
		for from := range int64(many) + 1 {
			for to := int64(-2); to <= int64(many)+2; to++ {
				two := newPair(t, 1000)
				for i := range many {
					two.run(t, add("entry"+string(rune('a'+i))))
				}
				two.run(t, trim(from), trim(to), trim(to), trim(from))
				two.crash(t, step{})
				two.run(t, add("x"), trim(to), add("y"), trim(math.MinInt64), trim(math.MaxInt64), trim(-1))
				two.crash(t, step{})
			}
		}
	}
}

// TestNumbers: they go on where all entries were trimmed, through crashes, past every count of digits.
func TestNumbers(t *testing.T) {
	two := newPair(t, 1000)
	for n := range int64(230) {
		two.run(t, add("entry"), add("another"))
		if n%7 != 3 {
			two.run(t, trim(n))
		}
		if n%5 == 2 {
			two.run(t, trim(two.p.next()))
			two.crash(t, step{})
		}
		if n%9 == 4 {
			two.crash(t, step{})
		}
		if len(two.p.entries) > 5 {
			two.run(t, trim(two.p.next()-1))
		}
	}
	if two.p.next() != 460 {
		t.Fatal(two.p.next())
	}
	// Nothing piles up of what was trimmed.
	for range 20 {
		two.run(t, add("entry"), trim(two.p.next()-1))
	}
	if list := two.d.List(); len(list) > len(two.p.entries)+3 {
		t.Errorf("%d entries lie in the files %q", len(two.p.entries), list)
	}
}

// TestOtherFiles: a log looks at no files but those whose names begin with wal.
func TestOtherFiles(t *testing.T) {
	others := []string{"a", "wa", "w", "Wal.entry.0", "WAL", " wal", "xwal.entry.1", "wa.entry.0", "w al", "entry.0", "z"}
	d := disk.New(10000)
	for _, name := range others {
		d.Append(name, []byte(name))
		d.Sync(name)
	}
	two := &pair{d: d, l: opened(t, d)}
	check(t, two.l, two.p)
	two.run(t, add("a"), add("b"), trim(1), add("c"))
	two.crash(t, step{})
	two.run(t, trim(3))
	two.crash(t, step{})
	for _, name := range d.List() {
		if strings.HasPrefix(name, "wal") {
			d.Remove(name)
		}
	}
	slices.Sort(others)
	if !slices.Equal(d.List(), others) {
		t.Errorf("%q, not %q", d.List(), others)
	}
	for _, name := range others {
		if b, e := d.Read(name); string(b) != name || e != api.OK {
			t.Errorf("%q: %q, %v", name, b, e)
		}
	}
}

// TestApart: R2, logs on two disks; and one on another's disk doesn't make it panic.
func TestApart(t *testing.T) {
	one, two := newPair(t, 1000), newPair(t, 1000)
	one.run(t, add("a"), add("b"))
	two.run(t, add("c"))
	one.run(t, trim(1))
	check(t, two.l, two.p)
	one.d.SetFuse(0)
	checkErrno(t, one.try(t, add("d")), api.ErrLost)
	two.run(t, add("e"), trim(1))
	two.crash(t, step{})

	first, second := opened(t, two.d), opened(t, two.d)
	checkErrno(t, second.Trim(2), api.OK)
	checkErrno(t, first.Trim(2), api.OK)
	checkErrno(t, first.Append([]byte("x")), api.OK)
	checkErrno(t, second.Append([]byte("y")), api.OK)
	check(t, first, plain{first: 2, entries: []string{"x"}})
	check(t, second, plain{first: 2, entries: []string{"y"}})
}

// TestForeign: of a disk on which others have laid files of these names Open ends, and the log can be used.
func TestForeign(t *testing.T) {
	random := rand.New(rand.NewSource(3))
	seen := plainNames(t)
	numbers := []string{"0", "1", "2", "00", "01", "-1", "+1", "", "x", "9223372036854775807", "9223372036854775808", "-9223372036854775808", "99999999999999999999", "1 ", "0x1"}
	for range 3000 {
		d := disk.New(10000)
		for range random.Intn(8) {
			name := seen[random.Intn(len(seen))]
			switch random.Intn(4) {
			case 0:
				name = strings.TrimRight(name, "0123456789") + numbers[random.Intn(len(numbers))]
			case 1:
				name = "wal" + numbers[random.Intn(len(numbers))]
			}
			d.Append(name, []byte("some bytes")[:random.Intn(11)])
			if random.Intn(2) == 0 {
				d.Sync(name)
			}
		}
		d.SetRoom(d.Used() + random.Intn(100))
		for range 3 {
			l, e := wal.Open(d)
			if e != api.OK {
				t.Fatalf("Open: %v", e)
			}
			l.Get(l.First())
			l.Get(l.Next() - 1)
			l.Append([]byte("more"))
			l.Append([]byte("bytes"))
			l.Trim(l.Next())
			l.Trim(l.First())
			l.Append([]byte("x"))
			d.Restart([]byte{1, 2, 3})
		}
	}
}

// plainNames are those that a log's own files have, at whatever operation it is cut short.
func plainNames(t *testing.T) []string {
	t.Helper()
	var names []string
	for fuse := range 20 {
		two := newPair(t, 1000)
		two.run(t, add("a"), add("b"), trim(1))
		two.d.SetFuse(fuse)
		for _, s := range []step{add("c"), add("d"), trim(3), add("e")} {
			two.try(t, s)
		}
		two.d.Restart([]byte{1, 1, 1})
		names = append(names, two.d.List()...)
	}
	slices.Sort(names)
	names = slices.Compact(names)
	for _, name := range names {
		if !strings.HasPrefix(name, "wal") {
			t.Errorf("the file %q isn't the log's own", name)
		}
	}
	return names
}
