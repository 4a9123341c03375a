package disk_test

import (
	"bytes"
	"fmt"
	"slices"
	"strings"
	"testing"

	"grist/api"
	"grist/disk"
)

// A file of a plain disk: its bytes as a text, and how many of them are synced.
type plainFile struct {
	name, text string
	synced     int
}

// plain is a disk as the document tells it, with nothing worked out ahead: what a Disk is held against.
type plain struct {
	files []plainFile
	room  int
	fuse  int // below 0: none
	down  bool
}

func newPlain(room int) *plain {
	return &plain{room: max(room, 0), fuse: -1}
}

func (p *plain) place(name string) int {
	return slices.IndexFunc(p.files, func(f plainFile) bool { return f.name == name })
}

func (p *plain) used() int {
	sum := 0
	for _, f := range p.files {
		sum += len(f.text)
	}
	return sum
}

func (p *plain) list() []string {
	var names []string
	for _, f := range p.files {
		if !p.down {
			names = append(names, f.name)
		}
	}
	slices.Sort(names)
	return names
}

// step is one call, with what it is handed in.
type step struct {
	call     string
	name, to string
	b        string
	n        int
}

func (s step) String() string {
	return fmt.Sprintf("%s(%q, %q, %s, %d)", s.call, s.name, s.to, short(s.b), s.n)
}

func short(text string) string {
	if len(text) > 100 {
		return fmt.Sprintf("%q and so on, %d bytes", text[:100], len(text))
	}
	return fmt.Sprintf("%q", text)
}

func plainName(text string) bool {
	named := len(text) > 0 && len(text) < 65
	for _, c := range []byte(text) {
		named = named && c >= ' ' && c != 0x7f
	}
	return named
}

// refusal is the error ahead of any operation.
func (p *plain) refusal(s step) api.Errno {
	at := p.place(s.name)
	switch {
	case p.down:
		return api.ErrLost
	case s.call == "Append" && !plainName(s.name):
		return api.ErrArg
	case s.call == "Append":
		return api.OK
	case at < 0:
		return api.ErrNone
	case s.call == "Rename" && !plainName(s.to):
		return api.ErrArg
	case s.call == "Cut" && (s.n < 0 || s.n > len(p.files[at].text)):
		return api.ErrRange
	}
	return api.OK
}

// operation answers an operation.
func (p *plain) operation(s step) (int, api.Errno) {
	if e := p.refusal(s); e != api.OK {
		return 0, e
	}
	if p.fuse == 0 {
		p.down = true
		return 0, api.ErrLost
	}
	if p.fuse > 0 {
		p.fuse--
	}
	at := p.place(s.name)
	switch s.call {
	case "Append":
		return p.append(s.name, s.b)
	case "Sync":
		p.files[at].synced = len(p.files[at].text)
	case "Rename":
		if s.name != s.to {
			p.files[at].name = ""
			p.files = slices.DeleteFunc(p.files, func(f plainFile) bool { return f.name == s.to })
			p.files[p.place("")].name = s.to
		}
	case "Remove":
		p.files = slices.Delete(p.files, at, at+1)
	case "Cut":
		p.files[at].text = p.files[at].text[:s.n]
		p.files[at].synced = min(p.files[at].synced, s.n)
	}
	return 0, api.OK
}

func (p *plain) append(name, b string) (int, api.Errno) {
	if p.place(name) < 0 {
		p.files = append(p.files, plainFile{name: name})
	}
	at := p.place(name)
	for i := range len(b) {
		if p.used()+1 > p.room {
			return i, api.ErrFull
		}
		p.files[at].text += b[i : i+1]
	}
	return len(b), api.OK
}

func (p *plain) restart(choices string) {
	slices.SortFunc(p.files, func(f, g plainFile) int { return strings.Compare(f.name, g.name) })
	for i := range p.files {
		f := &p.files[i]
		loose := len(f.text) - f.synced
		if loose > 0 && choices != "" {
			f.synced += int(choices[0]) % (loose + 1)
			choices = choices[1:]
		}
		f.text = f.text[:f.synced]
	}
	p.down, p.fuse = false, -1
}

// do is what the document answers.
func (p *plain) do(s step) (int, api.Errno) {
	switch s.call {
	case "SetRoom":
		p.room = max(s.n, 0)
	case "SetFuse":
		p.fuse = max(s.n, -1)
	case "Restart":
		p.restart(s.b)
	default:
		return p.operation(s)
	}
	return 0, api.OK
}

// do is what a disk answers, handed bytes with spare room, which must stay as they are.
func do(t *testing.T, d *disk.Disk, s step) (n int, e api.Errno) {
	t.Helper()
	const spare = "spare room"
	all := []byte(s.b + spare)
	b := all[:len(s.b)]
	switch s.call {
	case "Append":
		n, e = d.Append(s.name, b)
	case "Sync":
		e = d.Sync(s.name)
	case "Rename":
		e = d.Rename(s.name, s.to)
	case "Remove":
		e = d.Remove(s.name)
	case "Cut":
		e = d.Cut(s.name, s.n)
	case "SetRoom":
		d.SetRoom(s.n)
	case "SetFuse":
		d.SetFuse(s.n)
	case "Restart":
		d.Restart(b)
	default:
		t.Fatalf("there is no call %s", s.call)
	}
	if string(all) != s.b+spare {
		t.Fatalf("%v changed what was handed in", s)
	}
	// Nothing of it is kept: what it is from now on must not be seen.
	for i := range all {
		all[i] = '!'
	}
	return n, e
}

// pair is a disk and the plain one beside it.
type pair struct {
	d *disk.Disk
	p *plain
}

func newPair(room int) pair {
	return pair{disk.New(room), newPlain(room)}
}

// checkState holds all that a disk can be asked against the plain one.
func (two pair) checkState(t *testing.T, s step, names []string) {
	t.Helper()
	d, p := two.d, two.p
	if d.Down() != p.down || d.Used() != p.used() || !slices.Equal(d.List(), p.list()) {
		t.Fatalf("behind %v: Down %v, Used %d, List %q, not %v, %d, %q", s, d.Down(), d.Used(), d.List(), p.down, p.used(), p.list())
	}
	for _, name := range names {
		at := p.place(name)
		text, want := "", api.OK
		switch {
		case p.down:
			want = api.ErrLost
		case at < 0:
			want = api.ErrNone
		default:
			text = p.files[at].text
		}
		b, e := d.Read(name)
		if e != want || !bytes.Equal(b, []byte(text)) {
			t.Fatalf("behind %v: Read(%q): %s, %v, not %s, %v", s, name, short(string(b)), e, short(text), want)
		}
		// An answer is the asker's own.
		for i := range b[:cap(b)] {
			b[:cap(b)][i] = '?'
		}
	}
}

// check does a step on both and holds them against each other.
func (two pair) check(t *testing.T, s step, names ...string) {
	t.Helper()
	want, wantErrno := two.p.do(s)
	n, e := do(t, two.d, s)
	if n != want || e != wantErrno {
		t.Fatalf("%v: %d, %v, not %d, %v", s, n, e, want, wantErrno)
	}
	two.checkState(t, s, append(names, s.name, s.to))
}

func (two pair) run(t *testing.T, steps ...step) {
	t.Helper()
	for _, s := range steps {
		two.check(t, s)
	}
}
