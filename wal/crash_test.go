package wal_test

import (
	"math/rand"
	"slices"
	"strings"
	"testing"

	"grist/api"
	"grist/disk"
)

// TestCrashes: P10.3 and P10.4, with power that fails at each operation of each call, keeping each number of its bytes.
func TestCrashes(t *testing.T) {
	ahead := []step{add("first"), add("second"), trim(1), add("third"), add("fourth")}
	for _, s := range []step{add("x"), add("fifth"), trim(1), trim(2), trim(3), trim(4)} {
		for choice := range 7 {
			for fuse := 0; ; fuse++ {
				two := newPair(t, 1000)
				two.run(t, ahead...)
				two.d.SetFuse(fuse)
				e := two.try(t, s)
				two.openCrashed(t, s, byte(choice), byte(choice))
				two.run(t, add("y"), trim(two.p.next()-1), add("z"))
				two.crash(t, step{})
				if e == api.OK {
					break
				}
				if fuse > 100 {
					t.Fatal("it never is done")
				}
			}
		}
	}
}

// TestLost: whatever was lost, what was refused ahead of it is refused as before, and what was OK stays.
func TestLost(t *testing.T) {
	two := newPair(t, 1000)
	two.run(t, add("a"), add("b"))
	two.d.SetFuse(0)
	// Refused calls are no operations.
	two.run(t, add(""), trim(-1), trim(3))
	checkErrno(t, two.try(t, trim(1)), api.ErrLost)
	// It stays over when the disk is up again.
	two.d.Restart(nil)
	checkOver(t, two.l, two.p)
	checkErrno(t, do(t, two.l, add(strings.Repeat("x", mostBytes+1))), api.ErrLost)
	two.crash(t, trim(1))
	two.run(t, add("c"))
}

// TestDown: a disk that went down by another's operation is found so.
func TestDown(t *testing.T) {
	for _, s := range []step{add("x"), trim(1)} {
		two := newPair(t, 1000)
		two.run(t, add("a"))
		two.d.SetFuse(0)
		two.d.Append("other", nil)
		checkErrno(t, two.try(t, s), api.ErrLost)
		two.d.Restart(nil)
		two.l = opened(t, two.d)
		check(t, two.l, plain{entries: []string{"a"}})
	}
}

// TestFull: P10.3, at every room that is too small: all is as it was, and with room it goes on.
func TestFull(t *testing.T) {
	refused := 0
	for more := range 60 {
		two := newPair(t, 1000)
		two.run(t, add("first"), add("second"), trim(1))
		two.d.SetRoom(two.d.Used() + more)
		for range 3 {
			used, list := two.d.Used(), two.d.List()
			if two.try(t, add(strings.Repeat("x", 50))) == api.ErrFull {
				refused++
				if two.d.Used() != used || !slices.Equal(two.d.List(), list) {
					t.Fatalf("with room for %d: %d bytes are used, files %q, not %d, %q", more, two.d.Used(), two.d.List(), used, list)
				}
			}
		}
		two.try(t, add("y"))
		two.d.SetRoom(1000)
		two.run(t, add("z"), trim(2))
		two.crash(t, step{}, 1, 1, 1)
	}
	if refused < 100 {
		t.Fatal("only", refused)
	}
}

// TestFullCrashes: power fails while the disk is full.
func TestFullCrashes(t *testing.T) {
	for more := range 12 {
		for fuse := range 8 {
			for _, s := range []step{add("0123456789"), trim(2), trim(1)} {
				two := newPair(t, 1000)
				two.run(t, add("first"), add("second"), trim(1))
				two.d.SetRoom(two.d.Used() + more)
				two.d.SetFuse(fuse)
				two.try(t, s)
				two.openCrashed(t, s, byte(more), 3)
				two.d.SetRoom(1000)
				two.run(t, add("more"), trim(two.p.next()))
				two.crash(t, step{})
			}
		}
	}
}

// TestRoom: P10.5, in no more room than the document asks for, however much was appended and trimmed ahead.
func TestRoom(t *testing.T) {
	random := rand.New(rand.NewSource(10))
	long := strings.Repeat("0123456789", 1000)
	for range 60 {
		two := newPair(t, 132)
		for range 120 {
			s := add(long[:1+random.Intn([]int{1, 10, 300, 9999}[random.Intn(4)])])
			if random.Intn(2) == 0 {
				s = trim(two.p.first + random.Int63n(two.p.next()-two.p.first+1))
			}
			two.d.SetRoom(two.p.bound(s))
			two.run(t, s)
			if random.Intn(10) == 0 {
				two.crash(t, step{})
			}
		}
	}
}

// TestRoomBehindCrashes: what a call that was cut short has left takes no room from those behind it.
func TestRoomBehindCrashes(t *testing.T) {
	long := strings.Repeat("0123456789", 100)
	for fuse := range 12 {
		for _, s := range []step{add(long), trim(3), trim(4)} {
			two := newPair(t, 1<<20)
			two.run(t, add(long), add(long), add(long), add("x"))
			two.d.SetFuse(fuse)
			two.try(t, s)
			two.crash(t, s, 255, 255)
			for range 5 {
				s := trim(two.p.next())
				two.d.SetRoom(two.p.bound(s))
				two.run(t, s)
				s = add(long[:7])
				two.d.SetRoom(two.p.bound(s))
				two.run(t, s)
			}
		}
	}
}

// TestSteps: long random rows of calls, crashes, fuses and rooms.
func TestSteps(t *testing.T) {
	for seed := range int64(300) {
		random := rand.New(rand.NewSource(seed))
		script := make([]byte, 400)
		random.Read(script)
		runScript(t, script)
	}
}

func FuzzSteps(f *testing.F) {
	f.Add([]byte("some calls of all kinds: 0123456789 \x00\x01\x02\x03 \xf0\xf1\xf2\xf3"))
	f.Fuzz(func(t *testing.T, script []byte) {
		if len(script) < 2000 {
			runScript(t, script)
		}
	})
}

// runScript takes two bytes for each step.
func runScript(t *testing.T, script []byte) {
	t.Helper()
	const much = 1 << 20
	two := newPair(t, much)
	latest := step{}
	for ; len(script) > 1; script = script[2:] {
		n := int(script[1])
		switch script[0] % 16 {
		case 0:
			two.d.SetFuse(n % 16)
		case 1:
			two.d.SetRoom(two.d.Used() + n)
		case 2:
			two.d.SetRoom(much)
		case 3:
			two.crash(t, latest, byte(n), byte(n/2), byte(n/3))
		case 4:
			two.openCrashed(t, latest, byte(n), byte(n/2), byte(n/3))
		case 5, 6, 7, 8:
			latest = trim(two.p.first - 1 + int64(n)%(two.p.next()-two.p.first+3))
		default:
			latest = add(strings.Repeat(string([]byte{script[1]}), n*n%301))
		}
		if script[0]%16 < 5 {
			continue
		}
		if e := two.try(t, latest); e == api.ErrLost {
			two.crash(t, latest, byte(n), byte(n/2))
		}
	}
}

// TestMany: many entries, trimmed a few at a time, come to an end soon.
func TestMany(t *testing.T) {
	d := disk.New(1 << 30)
	l := opened(t, d)
	const many = 50000
	for n := range int64(many) {
		checkErrno(t, l.Append([]byte("entry")), api.OK)
		if n%2 == 1 {
			checkErrno(t, l.Trim(n/2), api.OK)
		}
	}
	d.Restart(nil)
	l = opened(t, d)
	if l.First() != many/2-1 || l.Next() != many {
		t.Fatal(l.First(), l.Next())
	}
	for n := l.First(); n < l.Next(); n++ {
		checkErrno(t, l.Trim(n+1), api.OK)
	}
	if b, e := l.Get(many - 1); len(b) != 0 || e != api.ErrRange {
		t.Fatal(b, e)
	}
}
