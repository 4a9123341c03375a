package disk_test

import (
	"math"
	"math/rand"
	"slices"
	"strings"
	"testing"

	"grist/api"
	"grist/disk"
)

func put(name, b string) step      { return step{call: "Append", name: name, b: b} }
func sync(name string) step        { return step{call: "Sync", name: name} }
func rename(name, to string) step  { return step{call: "Rename", name: name, to: to} }
func remove(name string) step      { return step{call: "Remove", name: name} }
func cut(name string, n int) step  { return step{call: "Cut", name: name, n: n} }
func room(n int) step              { return step{call: "SetRoom", n: n} }
func fuse(n int) step              { return step{call: "SetFuse", n: n} }
func restart(choices ...byte) step { return step{call: "Restart", b: string(choices)} }
func everyOperation(at string) []step {
	return []step{put(at, "xyz"), put(at, ""), sync(at), rename(at, "to"), rename(at, at), remove(at), cut(at, 1)}
}

// made is a disk with these files' bytes, all synced.
func made(t *testing.T, room int, texts ...string) *disk.Disk {
	t.Helper()
	d := disk.New(room)
	for i := 0; i < len(texts); i += 2 {
		checkAppend(t, d, texts[i], texts[i+1], len(texts[i+1]), api.OK)
		checkErrno(t, d.Sync(texts[i]), api.OK)
	}
	return d
}

func checkErrno(t *testing.T, e, want api.Errno) {
	t.Helper()
	if e != want {
		t.Fatalf("%v, not %v", e, want)
	}
}

func checkAppend(t *testing.T, d *disk.Disk, name, b string, want int, wantErrno api.Errno) {
	t.Helper()
	if n, e := do(t, d, put(name, b)); n != want || e != wantErrno {
		t.Fatalf("Append(%q, %s): %d, %v, not %d, %v", name, short(b), n, e, want, wantErrno)
	}
}

func checkRead(t *testing.T, d *disk.Disk, name, want string, wantErrno api.Errno) {
	t.Helper()
	if b, e := d.Read(name); string(b) != want || e != wantErrno {
		t.Fatalf("Read(%q): %s, %v, not %s, %v", name, short(string(b)), e, short(want), wantErrno)
	}
}

// checkFiles holds a disk that is up against names and texts, by rising names.
func checkFiles(t *testing.T, d *disk.Disk, texts ...string) {
	t.Helper()
	var names []string
	sum := 0
	for i := 0; i < len(texts); i += 2 {
		names = append(names, texts[i])
		sum += len(texts[i+1])
		checkRead(t, d, texts[i], texts[i+1], api.OK)
	}
	if d.Down() || d.Used() != sum || !slices.Equal(d.List(), names) {
		t.Fatalf("Down %v, Used %d, List %q, not %d, %q", d.Down(), d.Used(), d.List(), sum, names)
	}
}

// checkDown: all calls are answered as of a disk that is down, whatever they are handed in; used is as it was.
func checkDown(t *testing.T, d *disk.Disk, used int) {
	t.Helper()
	for _, name := range []string{"a", "b", "none", "", "\n", strings.Repeat("a", 65)} {
		for _, s := range append(everyOperation(name), rename(name, ""), cut(name, -1), cut(name, 99)) {
			if n, e := do(t, d, s); n != 0 || e != api.ErrLost {
				t.Fatalf("%v: %d, %v, not ErrLost", s, n, e)
			}
		}
		checkRead(t, d, name, "", api.ErrLost)
	}
	if !d.Down() || len(d.List()) != 0 || d.Used() != used {
		t.Fatalf("Down %v, List %q, Used %d, not %d", d.Down(), d.List(), d.Used(), used)
	}
}

// TestExamples: the document's own.
func TestExamples(t *testing.T) {
	for _, c := range []struct {
		choices []byte
		want    string
	}{
		{nil, "xy"}, {[]byte{}, "xy"}, {[]byte{1}, "xyz"},
	} {
		d := made(t, 100, "a", "xy")
		checkAppend(t, d, "a", "z", 1, api.OK)
		d.Restart(c.choices)
		checkFiles(t, d, "a", c.want)
	}
	d := disk.New(3)
	checkAppend(t, d, "a", "abcd", 3, api.ErrFull)
	checkFiles(t, d, "a", "abc")
	d.SetFuse(0)
	checkErrno(t, d.Sync("a"), api.ErrLost)
	checkDown(t, d, 3)
}

// TestNew: P9.1, of a new disk: no files, up, no fuse, and as much room as was asked for.
func TestNew(t *testing.T) {
	for _, n := range []int{100, 5, 4, 1, 0, -1, math.MinInt, math.MaxInt} {
		d := disk.New(n)
		checkFiles(t, d)
		for range 50 {
			checkAppend(t, d, "a", "", 0, api.OK)
		}
		checkFiles(t, d, "a", "")
		fits := min(max(n, 0), 5)
		want := api.OK
		if fits < 5 {
			want = api.ErrFull
		}
		checkAppend(t, d, "a", "12345", fits, want)
		checkFiles(t, d, "a", "12345"[:fits])
	}
}

// TestList: rising byte by byte, whatever the order in which they were made.
func TestList(t *testing.T) {
	want := []string{" ", "!", "A", "B", "Z", "a", "a ", "a/b", "a1", "a10", "a2", "aa", "b", "~", "\x80", "é", "\xff", "\xff\xff"}
	random := rand.New(rand.NewSource(1))
	for range 50 {
		d := disk.New(100)
		for _, i := range random.Perm(len(want)) {
			checkAppend(t, d, want[i], "", 0, api.OK)
		}
		if list := d.List(); !slices.Equal(list, want) {
			t.Fatalf("List: %q, not %q", list, want)
		}
	}
}

func TestNames(t *testing.T) {
	long := strings.Repeat("n", 64)
	for _, c := range []struct {
		name string
		is   bool
	}{
		{"a", true}, {long, true}, {strings.Repeat("\xff", 64), true}, {strings.Repeat("é", 32), true}, {"a b/c\\d\"", true},
		{"", false}, {long + "n", false}, {strings.Repeat("é", 33), false}, {strings.Repeat("n", 1<<20), false},
	} {
		checkName(t, c.name, c.is)
	}
	for c := range 256 {
		is := c >= 32 && c != 127
		one := string([]byte{byte(c)})
		checkName(t, one, is)
		checkName(t, "a"+one, is)
		checkName(t, one+long[1:], is)
		checkName(t, long[1:]+one, is)
		checkName(t, long+one, false)
	}
}

// checkName: names that are none are refused where a file is to be called so, and elsewhere there is no such file.
func checkName(t *testing.T, name string, is bool) {
	t.Helper()
	d := made(t, 100, "here", "xy")
	d.SetFuse(2)
	if !is {
		checkAppend(t, d, name, "z", 0, api.ErrArg)
		checkAppend(t, d, name, "", 0, api.ErrArg)
		checkErrno(t, d.Rename("here", name), api.ErrArg)
		for _, e := range []api.Errno{d.Sync(name), d.Remove(name), d.Cut(name, 0), d.Rename(name, "here"), d.Rename(name, name)} {
			checkErrno(t, e, api.ErrNone)
		}
		checkRead(t, d, name, "", api.ErrNone)
		checkFiles(t, d, "here", "xy")
		return
	}
	checkErrno(t, d.Rename("here", name), api.OK)
	checkAppend(t, d, name, "z", 1, api.OK)
	checkFiles(t, d, name, "xyz")
}

// TestAppend: P9.2, of bytes that fit, that fit in part, and that don't.
func TestAppend(t *testing.T) {
	for used := range 6 {
		for free := range 6 {
			for n := range 8 {
				two := newPair(used + free)
				two.run(t, put("b", "12345"[:used]), put("a", "abcdefgh"[:n]), put("a", "x"), put("b", "y"), put("new", "z"), put("none", ""))
				two.run(t, remove("b"), put("a", "klmnopq"), put("c", "rst"), restart(3, 3, 3))
			}
		}
	}
	// What didn't fit isn't there; none that fit make the file all the same.
	d := made(t, 4, "a", "1234")
	checkAppend(t, d, "b", "x", 0, api.ErrFull)
	checkFiles(t, d, "a", "1234", "b", "")
	d = disk.New(10)
	checkAppend(t, d, "a", "\x00\xff\x00", 3, api.OK)
	checkAppend(t, d, "a", "", 0, api.OK)
	checkAppend(t, d, "a", "\n", 1, api.OK)
	checkFiles(t, d, "a", "\x00\xff\x00\n")
}

// TestSetRoom: more and less than is used; what is there stays.
func TestSetRoom(t *testing.T) {
	d := made(t, 10, "a", "12345")
	for _, n := range []int{5, 4, 1, 0, -1, math.MinInt} {
		d.SetRoom(n)
		checkAppend(t, d, "a", "x", 0, api.ErrFull)
		checkAppend(t, d, "b", "xyz", 0, api.ErrFull)
		// No bytes always fit.
		checkAppend(t, d, "a", "", 0, api.OK)
		checkFiles(t, d, "a", "12345", "b", "")
	}
	d.SetRoom(7)
	checkAppend(t, d, "a", "xyz", 2, api.ErrFull)
	checkFiles(t, d, "a", "12345xy", "b", "")
	checkErrno(t, d.Cut("a", 1), api.OK)
	checkAppend(t, d, "b", "abcdefg", 6, api.ErrFull)
	checkErrno(t, d.Remove("b"), api.OK)
	d.SetRoom(math.MaxInt)
	checkAppend(t, d, "a", strings.Repeat("x", 1<<20), 1<<20, api.OK)
	// A disk that is down takes it too, and a restart leaves it.
	d.SetFuse(0)
	checkErrno(t, d.Remove("a"), api.ErrLost)
	d.SetRoom(3)
	d.Restart(nil)
	checkFiles(t, d, "a", "1")
	checkAppend(t, d, "a", "xyz", 2, api.ErrFull)
}

// TestSync: what is synced stays, of that file alone.
func TestSync(t *testing.T) {
	for n := range 4 {
		two := newPair(100)
		two.run(t, put("a", "12"), put("b", "34"), put("c", "56"))
		for _, name := range []string{"a", "b", "c"}[:n] {
			two.run(t, sync(name), sync(name))
		}
		two.run(t, put("a", "x"), put("c", "y"), sync("none"), restart())
		two.run(t, put("a", "z"), restart(1), sync("a"), put("a", "z"), restart(0), restart(1))
	}
}

// TestRename: P9.2, into the place of another file, of the same name, and what was synced goes along.
func TestRename(t *testing.T) {
	d := made(t, 10, "a", "123", "b", "4567")
	checkErrno(t, d.Rename("a", "a"), api.OK)
	checkFiles(t, d, "a", "123", "b", "4567")
	checkErrno(t, d.Rename("a", "b"), api.OK)
	checkFiles(t, d, "b", "123")
	checkErrno(t, d.Rename("a", "b"), api.ErrNone)
	checkErrno(t, d.Rename("a", "a"), api.ErrNone)
	checkErrno(t, d.Rename("b", "c"), api.OK)
	checkFiles(t, d, "c", "123")
	checkAppend(t, d, "b", "new", 3, api.OK)
	checkAppend(t, d, "c", "4567x", 4, api.ErrFull)
	checkFiles(t, d, "b", "new", "c", "1234567")
	d.Restart(nil)
	checkFiles(t, d, "b", "", "c", "123")

	two := newPair(100)
	two.run(t, put("a", "12"), sync("a"), put("a", "34"), put("b", "5678"), rename("b", "a"), restart(2))
	two.run(t, put("c", "xyz"), rename("a", "b"), put("a", "uvw"), sync("a"), rename("a", "c"), rename("b", "a"), rename("c", "c"), restart())
	two.run(t, put("a", "1"), put("c", "2"), rename("a", "d"), restart(0, 1))
}

func TestRemove(t *testing.T) {
	d := made(t, 5, "a", "123", "b", "45")
	checkErrno(t, d.Remove("a"), api.OK)
	checkErrno(t, d.Remove("a"), api.ErrNone)
	checkFiles(t, d, "b", "45")
	checkRead(t, d, "a", "", api.ErrNone)
	checkAppend(t, d, "a", "wxyz", 3, api.ErrFull)
	// A new file of an old name has nothing synced.
	d.Restart([]byte{1})
	checkFiles(t, d, "a", "w", "b", "45")
	checkErrno(t, d.Remove("b"), api.OK)
	checkErrno(t, d.Remove("a"), api.OK)
	d.Restart([]byte{9, 9})
	checkFiles(t, d)
}

// TestCut: P9.2, at each length, with each number of bytes synced, and what is laid behind it.
func TestCut(t *testing.T) {
	for synced := range 6 {
		for n := -2; n <= 8; n++ {
			for choice := range 6 {
				two := newPair(100)
				two.run(t, put("a", "12345"[:synced]), sync("a"), put("a", "12345"[synced:]), put("b", "x"), cut("a", n), put("a", "yz"), restart(byte(choice)))
				two.run(t, cut("a", 1), put("a", "wv"), restart(1))
			}
		}
	}
	d := made(t, 100, "a", "123")
	for _, n := range []int{-1, 4, 100, math.MaxInt, math.MinInt} {
		checkErrno(t, d.Cut("a", n), api.ErrRange)
	}
	checkErrno(t, d.Cut("b", 0), api.ErrNone)
	checkErrno(t, d.Cut("a", 3), api.OK)
	checkFiles(t, d, "a", "123")
	checkErrno(t, d.Cut("a", 0), api.OK)
	checkErrno(t, d.Cut("a", 0), api.OK)
	checkErrno(t, d.Cut("a", 1), api.ErrRange)
	checkFiles(t, d, "a", "")
}

// TestCutOfMuch: however much is cut, what is left is as it was.
func TestCutOfMuch(t *testing.T) {
	text := strings.Repeat("0123456789", 1000)
	two := newPair(1 << 20)
	two.run(t, put("a", text), sync("a"))
	for n := len(text); n > 0; n -= 1 + n/7 {
		two.run(t, cut("a", n), put("a", "some more"), cut("a", n+3), restart(2))
	}
	for _, n := range []int{9999, 5000, 4999, 100, 1, 0} {
		two.run(t, put("b", text), cut("b", n), put("b", "behind"), restart(255), remove("b"))
	}
}
