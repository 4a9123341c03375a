package wal_test

import (
	"fmt"
	"math"
	"slices"
	"testing"

	"grist/api"
	"grist/disk"
	"grist/wal"
)

// mostBytes is the most that an entry has.
const mostBytes = 1 << 20

// plain is a log as the document tells it: what a Log is held against.
type plain struct {
	first   int64
	entries []string
	over    bool
}

func (p plain) next() int64 { return p.first + int64(len(p.entries)) }

// step is one call: Append of a text, or Trim to a number.
type step struct {
	trim bool
	text string
	n    int64
}

func add(text string) step { return step{text: text} }
func trim(n int64) step    { return step{trim: true, n: n} }

func (s step) String() string {
	if s.trim {
		return fmt.Sprintf("Trim(%d)", s.n)
	}
	return fmt.Sprintf("Append(%s)", short(s.text))
}

func short(text string) string {
	if len(text) > 100 {
		return fmt.Sprintf("%q and so on, %d bytes", text[:100], len(text))
	}
	return fmt.Sprintf("%q", text)
}

// refusal is what is answered whatever the disk does.
func (p plain) refusal(s step) api.Errno {
	switch {
	case p.over:
		return api.ErrLost
	case !s.trim && (s.text == "" || len(s.text) > mostBytes):
		return api.ErrArg
	case s.trim && (s.n < p.first || s.n > p.next()):
		return api.ErrRange
	}
	return api.OK
}

// done is the log behind a call that was answered OK.
func (p plain) done(s step) plain {
	if s.trim {
		return plain{first: s.n, entries: p.entries[s.n-p.first:]}
	}
	return plain{first: p.first, entries: append(slices.Clip(p.entries), s.text)}
}

// bound is the room in which nothing is refused: twice the sum of 16 and each entry's bytes and 16, and 100.
func (p plain) bound(s step) int {
	sum := 16
	for _, text := range p.entries {
		sum += len(text) + 16
	}
	if !s.trim {
		sum += len(s.text) + 16
	}
	return 2*sum + 100
}

// do does a step, handing in bytes with spare room, which must stay as they are.
func do(t *testing.T, l *wal.Log, s step) api.Errno {
	t.Helper()
	if s.trim {
		return l.Trim(s.n)
	}
	const spare = "spare room"
	all := []byte(s.text + spare)
	e := l.Append(all[:len(s.text)])
	if string(all) != s.text+spare {
		t.Fatalf("%v changed what was handed in", s)
	}
	// Nothing of it is kept: what it is from now on must not be seen.
	for i := range all {
		all[i] = '!'
	}
	return e
}

// same holds all that a log can be asked against the plain one; it is "", if they are alike.
func same(l *wal.Log, p plain) string {
	if l.First() != p.first || l.Next() != p.next() {
		return fmt.Sprintf("First %d, Next %d, not %d, %d", l.First(), l.Next(), p.first, p.next())
	}
	for i, want := range p.entries {
		n := p.first + int64(i)
		b, e := l.Get(n)
		if string(b) != want || e != api.OK {
			return fmt.Sprintf("Get(%d): %s, %v, not %s", n, short(string(b)), e, short(want))
		}
		// An answer is the asker's own.
		for j := range b[:cap(b)] {
			b[:cap(b)][j] = '?'
		}
	}
	for _, n := range []int64{p.first - 1, p.first - 2, p.next(), p.next() + 1, math.MinInt64, math.MaxInt64} {
		if b, e := l.Get(n); len(b) != 0 || e != api.ErrRange {
			return fmt.Sprintf("Get(%d): %s, %v, not ErrRange", n, short(string(b)), e)
		}
	}
	return ""
}

func check(t *testing.T, l *wal.Log, p plain) {
	t.Helper()
	// Twice, as what was answered first was written over.
	for range 2 {
		if fault := same(l, p); fault != "" {
			t.Fatal(fault)
		}
	}
}

// checkOver: a log that is over changes no more, and answers as it was.
func checkOver(t *testing.T, l *wal.Log, p plain) {
	t.Helper()
	for _, s := range []step{add("x"), add(""), trim(p.first), trim(p.next()), trim(p.next() + 1), trim(p.first - 1)} {
		if e := do(t, l, s); e != api.ErrLost {
			t.Fatalf("%v of a log that is over: %v, not ErrLost", s, e)
		}
	}
	check(t, l, p)
}

func opened(t *testing.T, d *disk.Disk) *wal.Log {
	t.Helper()
	l, e := wal.Open(d)
	if e != api.OK || l == nil {
		t.Fatalf("Open: %v, %v", l, e)
	}
	return l
}

// pair is a log and the plain one beside it.
type pair struct {
	d *disk.Disk
	l *wal.Log
	p plain
}

func newPair(t *testing.T, room int) *pair {
	t.Helper()
	d := disk.New(room)
	two := &pair{d: d, l: opened(t, d)}
	check(t, two.l, two.p)
	return two
}

// run does steps, none of which finds the disk full or down.
func (two *pair) run(t *testing.T, steps ...step) {
	t.Helper()
	for _, s := range steps {
		want := two.p.refusal(s)
		if e := do(t, two.l, s); e != want {
			t.Fatalf("%v: %v, not %v", s, e, want)
		}
		if want == api.OK {
			two.p = two.p.done(s)
		}
		check(t, two.l, two.p)
	}
}

// try does a step that may find the disk full or down; behind that the log must be as it was.
func (two *pair) try(t *testing.T, s step) api.Errno {
	t.Helper()
	want := two.p.refusal(s)
	e := do(t, two.l, s)
	switch {
	case want != api.OK && e != want:
		t.Fatalf("%v: %v, not %v", s, e, want)
	case want == api.OK && e == api.OK:
		two.p = two.p.done(s)
	case want == api.OK && e == api.ErrLost:
		two.p.over = true
		checkOver(t, two.l, two.p)
	case want == api.OK && e != api.ErrFull:
		t.Fatalf("%v: %v", s, e)
	}
	if two.d.Down() != (e == api.ErrLost) && want == api.OK {
		t.Fatalf("%v: %v, but Down %v", s, e, two.d.Down())
	}
	check(t, two.l, two.p)
	return e
}

// crash restarts the disk and opens the log anew. Where the latest call was lost, it may have been done.
func (two *pair) crash(t *testing.T, latest step, choices ...byte) {
	t.Helper()
	two.d.Restart(choices)
	two.l = opened(t, two.d)
	was := two.p
	two.p.over = false
	if was.over && same(two.l, two.p) != "" {
		two.p = two.p.done(latest)
	}
	if fault := same(two.l, two.p); fault != "" {
		t.Fatalf("behind a crash in %v (lost %v): %s", latest, was.over, fault)
	}
	// Recovered twice it is the same.
	two.d.Restart(nil)
	two.l = opened(t, two.d)
	check(t, two.l, two.p)
}

// openCrashed opens the log with power that fails behind each number of operations, until it doesn't.
func (two *pair) openCrashed(t *testing.T, latest step, choices ...byte) {
	t.Helper()
	for n := 0; ; n++ {
		two.d.Restart(choices)
		two.d.SetFuse(n)
		l, e := wal.Open(two.d)
		if e == api.OK {
			break
		}
		if e != api.ErrLost || l != nil || !two.d.Down() {
			t.Fatalf("Open with power for %d operations: %v, %v, Down %v", n, l, e, two.d.Down())
		}
		if n > 1000 {
			t.Fatal("Open comes to no end")
		}
	}
	two.crash(t, latest, choices...)
}
