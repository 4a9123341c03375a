package line

import (
	"slices"
	"strconv"
	"strings"

	"grist/api"
	"grist/series"
	"grist/value"
)

const (
	end        = -1   // stands behind the last byte of a line
	escape     = '\\' // takes the meaning of the byte behind it
	mostDigits = 25   // digits of a text that is read as a Time
)

// reader goes through a line from its left, and holds what it has read of it so far.
type reader struct {
	line string
	at   int // the place of the byte that was read last: -1 at the beginning
	from int // where the piece begins that is under way: of a name, a value or a Time
	row  api.Row
}

// next reads one more byte, or end.
func (r *reader) next() int {
	r.at = min(r.at+1, len(r.line))
	if r.at == len(r.line) {
		return end
	}
	return int(r.line[r.at])
}

// step is next, but it goes past what a backslash escapes: that ends nothing.
func (r *reader) step() int {
	c := r.next()
	if c == escape {
		r.next()
	}
	return c
}

// piece answers what the byte that was read last has ended; the next piece begins behind that byte.
func (r *reader) piece() string {
	text := r.line[r.from:r.at]
	r.from = r.at + 1
	return text
}

// name answers the name whose text the piece is; false, if there is none.
func (r *reader) name() (string, bool) {
	// A piece that is asked for a name has no comma, or no equals sign, that isn't escaped, so layer 15 finds no tag in it.
	s, e := series.Parse(r.piece())
	return s.Name, e == api.OK
}

// read reads the whole line.
func (r *reader) read() api.Errno {
	if !r.readSeries() {
		return api.ErrForm
	}
	if e := r.readFields(); e != api.OK {
		return e
	}
	slices.SortFunc(r.row.Series.Tags, func(a, b api.Tag) int { return strings.Compare(a.Key, b.Key) })
	slices.SortFunc(r.row.Fields, func(a, b api.Field) int { return strings.Compare(a.Key, b.Key) })
	// In their order all that may still be wrong is that keys are alike, or too many.
	if !formed(r.row) {
		return api.ErrForm
	}
	return api.OK
}

// readSeries reads the series and the blank behind it; false, if it is read as none.
func (r *reader) readSeries() bool {
	var c int
	var key, held string
	var ok bool

name:
	switch c = r.step(); c {
	case ',', ' ':
		r.row.Series.Name, ok = r.name()
		goto more
	case end:
		return false
	}
	goto name

tagKey:
	switch r.step() {
	case '=':
		if key, ok = r.name(); !ok {
			return false
		}
		goto tagValue
	case end:
		return false
	}
	goto tagKey

tagValue:
	switch c = r.step(); c {
	case ',', ' ':
		held, ok = r.name()
		r.addTag(key, held)
		goto more
	case end:
		return false
	}
	goto tagValue

more:
	switch {
	case !ok:
		return false
	case c == ',':
		goto tagKey
	}
	return true
}

// addTag keeps no more tags than tell that there are too many.
func (r *reader) addTag(key, held string) {
	if tags := r.row.Series.Tags; len(tags) <= api.MostTags {
		r.row.Series.Tags = append(tags, api.Tag{Key: key, Value: held})
	}
}

// readFields reads the fields and the Time behind them, if there is one.
func (r *reader) readFields() api.Errno {
	var c int
	var key string
	var ok bool

fieldKey:
	switch r.step() {
	case '=':
		if key, ok = r.name(); !ok {
			return api.ErrForm
		}
		goto held
	case end:
		return api.ErrForm
	}
	goto fieldKey

held:
	if c = r.next(); c == '"' {
		goto quoted
	}
	goto plain

plain:
	switch c {
	case ',', ' ', end:
		goto more
	}
	c = r.next()
	goto plain

quoted:
	switch r.step() {
	case '"':
		c = r.next()
		goto more
	case end:
		return api.ErrForm
	}
	goto quoted

more:
	// Ahead of what stands behind the value: from the left its error is the first one.
	if e := r.addField(key); e != api.OK {
		return e
	}
	switch c {
	case ',':
		goto fieldKey
	case ' ':
		return r.readTime()
	case end:
		return api.OK
	}
	return api.ErrForm
}

// addField reads the piece as a field's value. It keeps no more fields than tell that there are too many.
func (r *reader) addField(key string) api.Errno {
	held, e := value.Parse(r.piece())
	if e != api.OK {
		return e
	}
	if len(r.row.Fields) <= api.MostFields {
		r.row.Fields = append(r.row.Fields, api.Field{Key: key, Value: held})
	}
	return api.OK
}

// readTime reads all that is left of the line as the row's Time.
func (r *reader) readTime() api.Errno {
	digits := 0
	c := r.next()
	if c == '-' {
		c = r.next()
	}

digit:
	switch {
	case '0' <= c && c <= '9':
		digits++
		c = r.next()
		goto digit
	case c != end || digits == 0 || digits > mostDigits:
		return api.ErrForm
	}
	time, err := strconv.ParseInt(r.piece(), 10, 64)
	if err != nil {
		return api.ErrRange
	}
	r.row.Time = time
	return api.OK
}
