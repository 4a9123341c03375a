package wal

import (
	"strconv"
	"strings"

	"grist/api"
)

// Each entry is a file of its own, called so only once it is whole and synced: a crash cuts none of them, and what is
// trimmed takes no room. A mark is a file without bytes that tells the first entry by its name: it always fits, and is
// there wholly or not at all.
const (
	ownPrefix   = "wal"
	newName     = "wal.new"
	entryPrefix = "wal.entry."
	markPrefix  = "wal.first."
)

func entryName(n int64) string {
	return entryPrefix + strconv.FormatInt(n, 10)
}

func markName(n int64) string {
	return markPrefix + strconv.FormatInt(n, 10)
}

// number is the one that this prefix and then name tell; false, if they tell none.
func number(name, prefix string) (int64, bool) {
	text, found := strings.CutPrefix(name, prefix)
	n, err := strconv.ParseInt(text, 10, 64)
	if !found || err != nil {
		return 0, false
	}
	return n, true
}

// lastMark is the greatest number that a mark tells, 0 without one: a crash may leave earlier marks beside the last.
func lastMark(names []string) int64 {
	last := int64(0)
	for _, name := range names {
		if n, is := number(name, markPrefix); is {
			last = max(last, n)
		}
	}
	return last
}

// load reads the entries from the first on; ErrLost, if the disk is down, or there is none.
func (l *Log) load() api.Errno {
	for {
		b, e := l.disk.Read(entryName(l.Next()))
		if e == api.ErrNone {
			return api.OK
		}
		if e != api.OK {
			return e
		}
		l.entries = append(l.entries, b)
	}
}

// clean takes those files away that calls which a crash cut short have left.
func (l *Log) clean() api.Errno {
	for _, name := range l.disk.List() {
		if !strings.HasPrefix(name, ownPrefix) || l.holds(name) {
			continue
		}
		if e := l.remove(name); e != api.OK {
			return e
		}
	}
	return api.OK
}

// holds tells whether a file is the mark, or an entry that is there.
func (l *Log) holds(name string) bool {
	if n, is := number(name, entryPrefix); is {
		return n >= l.first && n < l.Next()
	}
	return name == markName(l.first)
}

// remove takes a file away; it is no fault if there is none.
func (l *Log) remove(name string) api.Errno {
	if e := l.disk.Remove(name); e != api.ErrNone {
		return e
	}
	return api.OK
}

// lay lays b on the disk as the entry Next; behind ErrFull the disk is as it was.
func (l *Log) lay(b []byte) api.Errno {
	if _, e := l.disk.Append(newName, b); e != api.OK {
		return l.undo(e)
	}
	if e := l.disk.Sync(newName); e != api.OK {
		return e
	}
	return l.disk.Rename(newName, entryName(l.Next()))
}

// undo gives the room back that a new file has taken, and answers e, unless the disk goes down with that.
func (l *Log) undo(e api.Errno) api.Errno {
	if lost := l.remove(newName); lost != api.OK {
		return lost
	}
	return e
}

// mark makes n the first entry on the disk: from the new mark on it is so, whatever is still to be taken away.
func (l *Log) mark(n int64) api.Errno {
	if _, e := l.disk.Append(markName(n), nil); e != api.OK || n == l.first {
		return e
	}
	for i := l.first; i < n; i++ {
		if e := l.remove(entryName(i)); e != api.OK {
			return e
		}
	}
	return l.remove(markName(l.first))
}
