package disk_test

import (
	"math"
	"math/rand"
	"slices"
	"strings"
	"testing"

	"grist/api"
	"grist/disk"
)

// TestFuse: so many operations of each kind are done, and the next one isn't: nothing of it is.
func TestFuse(t *testing.T) {
	for n := range 5 {
		for _, last := range everyOperation("a") {
			two := newPair(100)
			two.run(t, put("a", "123"), sync("a"), put("a", "45"), put("b", "6"), fuse(n))
			for range n {
				two.run(t, put("c", "x"))
			}
			if two.d.Down() {
				t.Fatalf("down behind %d operations of %d", n, n)
			}
			two.run(t, last)
			checkDown(t, two.d, 6+n)
			two.run(t, restart(2, 1, 255))
			two.run(t, slices.Repeat(everyOperation("b"), 10)...)
		}
	}
	for _, each := range everyOperation("a") {
		two := newPair(100)
		two.run(t, put("a", "123"), fuse(1), each, put("b", ""))
		checkDown(t, two.d, two.p.used())
	}
}

// TestNoOperations: what is refused, and what is only asked, leaves the fuse as it is; a disk that is full, or nothing to be done, doesn't.
func TestNoOperations(t *testing.T) {
	for n := range 3 {
		two := newPair(4)
		two.run(t, put("a", "123"), sync("a"), fuse(n))
		two.run(t, put("", "x"), put("\n", ""), sync("b"), remove("b"), cut("b", 0), rename("b", "c"), rename("b", ""), rename("a", ""), rename("a", "\x7f"), cut("a", -1), cut("a", 4), room(5), room(4))
		if two.d.Down() {
			t.Fatal("down by calls that are no operations")
		}
		for range n {
			two.run(t, put("a", "xx"))
		}
		two.run(t, put("a", ""))
		checkDown(t, two.d, two.p.used())
	}
	d := made(t, 4, "a", "1234")
	d.SetFuse(5)
	checkAppend(t, d, "a", "x", 0, api.ErrFull)
	checkAppend(t, d, "a", "", 0, api.OK)
	checkErrno(t, d.Sync("a"), api.OK)
	checkErrno(t, d.Rename("a", "a"), api.OK)
	checkErrno(t, d.Cut("a", 4), api.OK)
	checkFiles(t, d, "a", "1234")
	checkErrno(t, d.Cut("a", 4), api.ErrLost)
	checkDown(t, d, 4)
}

// TestSetFuse: the latest one holds; below 0 there is none; of a disk that is down it changes nothing.
func TestSetFuse(t *testing.T) {
	for _, n := range []int{-1, -2, math.MinInt, math.MaxInt, 1000} {
		d := made(t, 10, "a", "1")
		d.SetFuse(0)
		d.SetFuse(n)
		for range 100 {
			checkErrno(t, d.Sync("a"), api.OK)
		}
		d.SetFuse(0)
		checkErrno(t, d.Sync("a"), api.ErrLost)
		d.SetFuse(n)
		checkDown(t, d, 1)
		d.SetFuse(0)
		checkDown(t, d, 1)
		d.Restart(nil)
		checkErrno(t, d.Sync("a"), api.OK)
	}
}

// TestRestart: P9.4, each choice with each number of bytes that aren't synced.
func TestRestart(t *testing.T) {
	text := strings.Repeat("0123456789abcdef", 40)
	for _, synced := range []int{0, 1, 3} {
		for _, loose := range []int{0, 1, 2, 3, 7, 100, 254, 255, 256, 257, 600} {
			for choice := range 256 {
				d := made(t, 1000, "a", text[:synced])
				checkAppend(t, d, "a", text[synced:synced+loose], loose, api.OK)
				d.Restart([]byte{byte(choice)})
				stays := text[:synced+choice%(loose+1)]
				checkFiles(t, d, "a", stays)
				// All that stayed is synced, and the disk has room again.
				d.Restart(nil)
				checkFiles(t, d, "a", stays)
			}
		}
	}
}

// TestChoices: they go to the files with bytes that aren't synced alone, by rising names, up or down.
func TestChoices(t *testing.T) {
	for _, c := range []struct {
		choices []byte
		want    [3]string // of b, d and e
	}{
		{nil, [3]string{"", "2", ""}}, {[]byte{0}, [3]string{"", "2", ""}},
		{[]byte{1}, [3]string{"x", "2", ""}}, {[]byte{3}, [3]string{"", "2", ""}}, {[]byte{1, 1}, [3]string{"x", "2y", ""}},
		{[]byte{0, 2}, [3]string{"", "2yy", ""}}, {[]byte{0, 0, 2}, [3]string{"", "2", "zz"}}, {[]byte{2, 3, 4}, [3]string{"xx", "2yyy", "zzzz"}},
		{[]byte{255, 254, 253, 7, 7}, [3]string{"", "2yy", "zzz"}}, {[]byte{2, 3, 4, 0, 0}, [3]string{"xx", "2yyy", "zzzz"}},
	} {
		for _, down := range []bool{false, true} {
			d := made(t, 100, "c", "1", "d", "2", "a", "")
			checkAppend(t, d, "e", "zzzz", 4, api.OK)
			checkAppend(t, d, "d", "yyy", 3, api.OK)
			checkAppend(t, d, "b", "xx", 2, api.OK)
			if down {
				d.SetFuse(0)
				checkErrno(t, d.Remove("a"), api.ErrLost)
			}
			d.Restart(c.choices)
			checkFiles(t, d, "a", "", "b", c.want[0], "c", "1", "d", c.want[1], "e", c.want[2])
		}
	}
}

// TestRestartOfNames: a file stays though none of its bytes do; what was renamed or removed is so, though nothing was synced.
func TestRestartOfNames(t *testing.T) {
	d := disk.New(100)
	checkAppend(t, d, "a", "12", 2, api.OK)
	checkAppend(t, d, "b", "34", 2, api.OK)
	checkAppend(t, d, "c", "56", 2, api.OK)
	checkErrno(t, d.Rename("a", "d"), api.OK)
	checkErrno(t, d.Remove("b"), api.OK)
	d.Restart([]byte{0, 1})
	checkFiles(t, d, "c", "", "d", "1")
}

// TestNil: P9.5, with R1.
func TestNil(t *testing.T) {
	var d *disk.Disk
	for range 2 {
		checkDown(t, d, 0)
		d.SetRoom(100)
		d.SetFuse(5)
		d.Restart([]byte{1})
		d.Restart(nil)
	}
}

// TestZero: a Disk that New didn't make ends all calls too, as one without room.
func TestZero(t *testing.T) {
	two := pair{&disk.Disk{}, newPlain(0)}
	two.run(t, sync("a"), remove("a"), restart(), rename("a", "b"), put("a", "x"), put("a", ""), room(3), put("b", "xyzw"), fuse(0), sync("a"), restart(2))
	two = pair{&disk.Disk{}, newPlain(0)}
	two.run(t, restart(1), fuse(1), put("", ""), put("c", "1"), put("d", "2"), restart(1))
}

// TestApart: R2, disks never influence one another.
func TestApart(t *testing.T) {
	one, other := newPair(5), newPair(5)
	for _, s := range []step{put("a", "123"), sync("a"), put("b", "45"), rename("b", "a"), put("a", "xyz"), cut("a", 1), fuse(0), put("a", ""), restart(1), remove("a")} {
		one.run(t, s)
		other.checkState(t, s, []string{"a", "b"})
	}
	one.run(t, put("a", "12"))
	other.run(t, put("a", "abcd"))
	one.run(t, put("a", "3"))
	one.checkState(t, step{}, []string{"a"})
}

// TestMemory: R3, nothing that was handed in is kept, and no answers share anything.
func TestMemory(t *testing.T) {
	d := disk.New(100)
	b := []byte("12345678")
	d.Append("a", b[:4])
	copy(b, "xxxxxxxx")
	checkFiles(t, d, "a", "1234")
	first, _ := d.Read("a")
	second, _ := d.Read("a")
	copy(first[:cap(first)], "yyyyyyyyyyyyyyyyyyyyyyyyyyyyyyyy")
	_ = append(first, "zzzz"...)
	if string(second) != "1234" {
		t.Fatalf("%q, not 1234", second)
	}
	checkFiles(t, d, "a", "1234")
	// What was read stays as it was, whatever is done with the file.
	d.Cut("a", 2)
	d.Append("a", []byte("uvwxyz"))
	d.Restart([]byte{5})
	if string(second) != "1234" {
		t.Fatalf("%q, not 1234", second)
	}
	d.Append("b", nil)
	list, again := d.List(), d.List()
	for i := range list[:cap(list)] {
		list[:cap(list)][i] = "c"
	}
	if !slices.Equal(again, []string{"a", "b"}) || !slices.Equal(d.List(), again) {
		t.Fatalf("%q", again)
	}
	// Bytes that are handed in and kept by no one: the same ones again and again.
	same := []byte("same")
	d = disk.New(100)
	for _, name := range []string{"a", "b", "c"} {
		d.Append(name, same)
		d.Append(name, same[:1])
	}
	same[0] = '!'
	d.Append("a", []byte("?"))
	checkFiles(t, d, "a", "sames?", "b", "sames", "c", "sames")
}

// someStep is a step that does something more often than not.
func someStep(pick func(int) int) step {
	names := []string{"a", "b", "c", "d/1", "d/2", "e", "none", "", "\x1f", strings.Repeat("n", 64), strings.Repeat("n", 65)}
	name := names[min(pick(len(names)), pick(len(names)))]
	to := names[min(pick(len(names)), pick(len(names)))]
	text := strings.Repeat("0123456789", 40)
	from := pick(10)
	b := text[from : from+min(pick(40), pick(400-10))]
	switch pick(16) {
	case 0, 1, 2, 3, 4, 5:
		return put(name, b)
	case 6, 7:
		return sync(name)
	case 8, 9:
		return rename(name, to)
	case 10:
		return remove(name)
	case 11, 12:
		return cut(name, pick(30)-2)
	case 13:
		return room(pick(8)*pick(60) - 5)
	case 14:
		return fuse(pick(20) - 4)
	}
	var choices []byte
	for range pick(6) {
		choices = append(choices, byte(pick(256)))
	}
	return restart(choices...)
}

var someNames = []string{"a", "b", "c", "d/1", "d/2", "e", "none"}

// TestManySteps: long rows of steps, each answer and all that is there behind it held against the plain disk.
func TestManySteps(t *testing.T) {
	random := rand.New(rand.NewSource(1))
	for range 300 {
		two := newPair(random.Intn(600) - 20)
		for range 300 {
			two.check(t, someStep(random.Intn), someNames...)
			if two.p.down && random.Intn(3) > 0 {
				two.check(t, restart(byte(random.Intn(256)), byte(random.Intn(256))))
			}
		}
	}
}

// FuzzSteps makes steps of whatever bytes come.
func FuzzSteps(f *testing.F) {
	f.Add([]byte("some steps, of whatever bytes"))
	f.Add(slices.Repeat([]byte{0, 0, 0, 0, 0, 20, 20, 1}, 20))
	f.Add(slices.Repeat([]byte{0, 1, 2, 3, 0, 9, 200, 15, 4, 7, 8, 9}, 40))
	f.Fuzz(func(t *testing.T, b []byte) {
		pick := func(n int) int {
			if len(b) == 0 {
				return 0
			}
			first := b[0]
			b = b[1:]
			return int(first) * 3 % n
		}
		two := newPair(pick(256))
		for len(b) > 0 {
			two.check(t, someStep(pick), someNames...)
		}
	})
}
