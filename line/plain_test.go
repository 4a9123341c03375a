package line_test

import (
	"fmt"
	"math"
	"math/big"
	"math/rand"
	"regexp"
	"slices"
	"strings"
	"testing"

	"grist/api"
	"grist/line"
	"grist/value"
)

// signs are all that have a backslash ahead in a name's text.
const signs = ",= #\\"

const (
	least = math.MinInt64
	most  = math.MaxInt64
)

func float(f float64) api.Value   { return value.Of(f) }
func integer(n int64) api.Value   { return api.Value{Kind: api.Integer, Bits: uint64(n)} }
func boolean(b uint64) api.Value  { return api.Value{Kind: api.Boolean, Bits: b} }
func text(s string) api.Value     { return api.Value{Kind: api.String, Text: s} }
func long(s string, n int) string { return strings.Repeat(s, n)[:n] }

// of is a series with tags of these keys and values, in turn.
func of(name string, pairs ...string) api.Series {
	s := api.Series{Name: name}
	for i := 0; i < len(pairs); i += 2 {
		s.Tags = append(s.Tags, api.Tag{Key: pairs[i], Value: pairs[i+1]})
	}
	return s
}

// row is one with fields of these keys and values, in turn.
func row(s api.Series, time int64, pairs ...any) api.Row {
	r := api.Row{Series: s, Time: time}
	for i := 0; i < len(pairs); i += 2 {
		r.Fields = append(r.Fields, api.Field{Key: pairs[i].(string), Value: pairs[i+1].(api.Value)})
	}
	return r
}

func same(a, b api.Row) bool {
	return a.Series.Name == b.Series.Name && slices.Equal(a.Series.Tags, b.Series.Tags) && slices.Equal(a.Fields, b.Fields) && a.Time == b.Time
}

var notOfNames = regexp.MustCompile(`[\x00-\x1f\x7f]`)

func isName(s string) bool {
	return 1 <= len(s) && len(s) <= 64 && !notOfNames.MatchString(s)
}

// valued tells whether v is formed, as the document tells it.
func valued(v api.Value) bool {
	switch v.Kind {
	case api.Float:
		f := math.Float64frombits(v.Bits)
		return f-f == 0 && v.Text == ""
	case api.Integer:
		return v.Text == ""
	case api.Boolean:
		return (v.Bits == 0 || v.Bits == 1) && v.Text == ""
	case api.String:
		return v.Bits == 0 && len(v.Text) <= 65536
	}
	return false
}

// formed tells whether r is formed, as the document tells it.
func formed(r api.Row) bool {
	all := isName(r.Series.Name) && len(r.Series.Tags) <= 8 && 1 <= len(r.Fields) && len(r.Fields) <= 16
	for i, t := range r.Series.Tags {
		all = all && isName(t.Key) && isName(t.Value) && (i == 0 || strings.Compare(r.Series.Tags[i-1].Key, t.Key) == -1)
	}
	for i, f := range r.Fields {
		all = all && isName(f.Key) && valued(f.Value) && (i == 0 || strings.Compare(r.Fields[i-1].Key, f.Key) == -1)
	}
	return all
}

var escaping = strings.NewReplacer(`,`, `\,`, `=`, `\=`, ` `, `\ `, `#`, `\#`, `\`, `\\`)

// textOf is the text of a row with formed values, as the document tells it.
func textOf(r api.Row) string {
	all := escaping.Replace(r.Series.Name)
	for _, t := range r.Series.Tags {
		all += "," + escaping.Replace(t.Key) + "=" + escaping.Replace(t.Value)
	}
	between := " "
	for _, f := range r.Fields {
		held, _ := value.Print(f.Value)
		all += between + escaping.Replace(f.Key) + "=" + held
		between = ","
	}
	return all + fmt.Sprintf(" %d", r.Time)
}

const oneName = `((?:[^,= #\\]|\\[,= #\\])*)`

var (
	upToBlank  = regexp.MustCompile(`(?s)^((?:[^\\ ]|\\.)*) `)
	upToEquals = regexp.MustCompile(`(?s)^((?:[^\\=]|\\.)*)=`)
	seriesText = regexp.MustCompile(`(?s)^` + oneName + `((?:,` + oneName + `=` + oneName + `)*)$`)
	tagText    = regexp.MustCompile(`(?s),` + oneName + `=` + oneName)
	nameText   = regexp.MustCompile(`(?s)^` + oneName + `$`)
	quotedText = regexp.MustCompile(`(?s)^"(?:[^\\"]|\\.)*"`)
	plainText  = regexp.MustCompile(`(?s)^[^, ]*`)
	timeText   = regexp.MustCompile(`^-?[0-9]{1,25}$`)
	unescape   = regexp.MustCompile(`(?s)\\(.)`)
)

// named is the name whose text this is; false, if there is none.
func named(text string) (string, bool) {
	if !nameText.MatchString(text) {
		return "", false
	}
	name := unescape.ReplaceAllString(text, "$1")
	return name, isName(name)
}

// toldSeries takes the series off a line; false, if it is read as none.
func toldSeries(s string) (found api.Series, rest string, ok bool) {
	head := upToBlank.FindStringSubmatch(s)
	if head == nil {
		return
	}
	parts := seriesText.FindStringSubmatch(head[1])
	if parts == nil {
		return
	}
	found.Name, ok = named(parts[1])
	for _, pair := range tagText.FindAllStringSubmatch(parts[2], -1) {
		key, isKey := named(pair[1])
		held, isValue := named(pair[2])
		ok = ok && isKey && isValue
		found.Tags = append(found.Tags, api.Tag{Key: key, Value: held})
	}
	return found, s[len(head[0]):], ok
}

// toldField takes a field off what is left of a line.
func toldField(s string) (found api.Field, rest string, e api.Errno) {
	head := upToEquals.FindStringSubmatch(s)
	if head == nil {
		return found, "", api.ErrForm
	}
	key, ok := named(head[1])
	if !ok {
		return found, "", api.ErrForm
	}
	s = s[len(head[0]):]
	held := plainText.FindString(s)
	if strings.HasPrefix(s, `"`) {
		held = quotedText.FindString(s)
	}
	v, e := value.Parse(held)
	return api.Field{Key: key, Value: v}, s[len(held):], e
}

// told is what Parse answers, as the document tells it.
func told(s string, now int64) (r api.Row, e api.Errno) {
	r.Time = now
	rest, ok := "", false
	if r.Series, rest, ok = toldSeries(s); !ok {
		return api.Row{}, api.ErrForm
	}
	for more := true; more; {
		f, behind, e := toldField(rest)
		if e != api.OK {
			return api.Row{}, e
		}
		r.Fields = append(r.Fields, f)
		rest, more = strings.CutPrefix(behind, ",")
	}
	if rest != "" {
		if rest[0] != ' ' || !timeText.MatchString(rest[1:]) {
			return api.Row{}, api.ErrForm
		}
		n, _ := new(big.Int).SetString(rest[1:], 10)
		if !n.IsInt64() {
			return api.Row{}, api.ErrRange
		}
		r.Time = n.Int64()
	}
	if tooMany(r) {
		return api.Row{}, api.ErrForm
	}
	slices.SortFunc(r.Series.Tags, func(a, b api.Tag) int { return strings.Compare(a.Key, b.Key) })
	slices.SortFunc(r.Fields, func(a, b api.Field) int { return strings.Compare(a.Key, b.Key) })
	return r, api.OK
}

// tooMany tells whether there are too many keys, or two alike.
func tooMany(r api.Row) bool {
	tags, fields := map[string]bool{}, map[string]bool{}
	for _, t := range r.Series.Tags {
		tags[t.Key] = true
	}
	for _, f := range r.Fields {
		fields[f.Key] = true
	}
	return len(tags) < len(r.Series.Tags) || len(fields) < len(r.Fields) || len(tags) > 8 || len(fields) > 16
}

// checkRead: s is read as this row.
func checkRead(t *testing.T, s string, want api.Row) {
	t.Helper()
	if r, e := line.Parse(s, want.Time); e != api.OK || !same(r, want) {
		t.Errorf("Parse(%.900q): %.900v, %v, not %.900v", s, r, e, want)
	}
	checkAnything(t, s, want.Time)
}

// checkFault: s is read as none, for this.
func checkFault(t *testing.T, s string, want api.Errno) {
	t.Helper()
	if r, e := line.Parse(s, 7); e != want || !same(r, api.Row{}) {
		t.Errorf("Parse(%.900q): %.900v, %v, not %v", s, r, e, want)
	}
	checkAnything(t, s, -7)
}

// checkAnything holds Parse of whatever text, and answers whether it is read as a row.
func checkAnything(t *testing.T, s string, now int64) bool {
	t.Helper()
	want, fault := told(s, now)
	r, e := line.Parse(s, now)
	if e != fault || !same(r, want) {
		t.Errorf("Parse(%.900q): %.900v, %v, not %.900v, %v", s, r, e, want, fault)
	}
	if e != api.OK {
		return false
	}
	checkPrint(t, r)
	return true
}

// checkPrint holds Print of whatever row, and that Parse undoes it: P17.1, P17.3.
func checkPrint(t *testing.T, r api.Row) {
	t.Helper()
	s, e := line.Print(r)
	if !formed(r) {
		if s != "" || e != api.ErrArg {
			t.Errorf("Print(%.900v): %.900q, %v, not ErrArg", r, s, e)
		}
		return
	}
	if want := textOf(r); s != want || e != api.OK {
		t.Errorf("Print(%.900v): %.900q, %v, not %.900q", r, s, e, want)
	}
	if back, e := line.Parse(s, r.Time+1); e != api.OK || !same(back, r) {
		t.Errorf("Parse(%.900q): %.900v, %v, not %.900v", s, back, e, r)
	}
}

// checkBatch holds Batch of whatever text against lines that are parsed one by one.
func checkBatch(t *testing.T, s string, now int64) {
	t.Helper()
	var rows []api.Row
	var faults []line.Fault
	lines := strings.Split(s, "\n")
	if lines[len(lines)-1] == "" {
		lines = lines[:len(lines)-1]
	}
	for i, one := range lines {
		r, e := told(one, now)
		if e == api.OK {
			rows = append(rows, r)
		} else if one != "" && !strings.HasPrefix(one, "#") {
			faults = append(faults, line.Fault{Line: i + 1, Errno: e})
		}
	}
	if len(lines) > 1000 {
		rows, faults = nil, []line.Fault{{Line: 0, Errno: api.ErrLong}}
	}
	checkAnswers(t, s, now, rows, faults)
}

// checkAnswers: these are the rows and faults of the batch s.
func checkAnswers(t *testing.T, s string, now int64, rows []api.Row, faults []line.Fault) {
	t.Helper()
	gotRows, gotFaults := line.Batch(s, now)
	if !slices.EqualFunc(gotRows, rows, same) || !slices.Equal(gotFaults, faults) {
		t.Errorf("Batch(%.900q): %.900v, %.900v, not %.900v, %.900v", s, gotRows, gotFaults, rows, faults)
	}
}

// someName is mostly a name, of some signs and bytes.
func someName(random *rand.Rand) string {
	n := 1 + random.Intn(3)
	switch random.Intn(100) {
	case 0:
		n = 0
	case 1:
		n = 60 + random.Intn(8)
	}
	b := make([]byte, n)
	for i := range b {
		switch random.Intn(400) {
		case 0:
			b[i] = byte(random.Intn(256))
		case 1:
			b[i] = []byte{31, 32, 126, 127, 128, 255}[random.Intn(6)]
		default:
			b[i] = ("abcdefg\"\xc3\xa9-i" + signs)[random.Intn(12+len(signs))]
		}
	}
	return string(b)
}

// someValue is mostly a formed one.
func someValue(random *rand.Rand) api.Value {
	v := api.Value{Kind: 1 + random.Intn(4)}
	switch v.Kind {
	case api.Float, api.Integer:
		v.Bits = random.Uint64() >> random.Intn(64)
	case api.Boolean:
		v.Bits = uint64(random.Intn(2))
	case api.String:
		b := make([]byte, random.Intn(6))
		for i := range b {
			b[i] = "\"\\\nn ,=#x\xff"[random.Intn(10)]
		}
		v.Text = string(b)
	}
	switch random.Intn(200) {
	case 0:
		v.Kind = random.Intn(7) - 1
	case 1:
		v.Bits = random.Uint64()
	case 2:
		v.Text = "x"
	}
	return v
}

// someRow is one with tags and fields that mostly rise.
func someRow(random *rand.Rand) api.Row {
	r := api.Row{Series: api.Series{Name: someName(random)}, Time: int64(random.Uint64()) >> random.Intn(64)}
	for range max(random.Intn(12)-2, 0) {
		r.Series.Tags = append(r.Series.Tags, api.Tag{Key: someName(random), Value: someName(random)})
	}
	for range random.Intn(18) {
		r.Fields = append(r.Fields, api.Field{Key: someName(random), Value: someValue(random)})
	}
	if random.Intn(20) > 0 {
		slices.SortFunc(r.Series.Tags, func(a, b api.Tag) int { return strings.Compare(a.Key, b.Key) })
		slices.SortFunc(r.Fields, func(a, b api.Field) int { return strings.Compare(a.Key, b.Key) })
	}
	if random.Intn(20) > 0 {
		r.Series.Tags = slices.CompactFunc(r.Series.Tags, func(a, b api.Tag) bool { return a.Key == b.Key })
		r.Fields = slices.CompactFunc(r.Fields, func(a, b api.Field) bool { return a.Key == b.Key })
	}
	return r
}
