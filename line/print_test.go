package line_test

import (
	"fmt"
	"math"
	"math/rand"
	"slices"
	"strings"
	"testing"

	"grist/api"
	"grist/line"
)

// checkText: r is formed, and this is its text.
func checkText(t *testing.T, r api.Row, want string) {
	t.Helper()
	if s, e := line.Print(r); s != want || e != api.OK {
		t.Errorf("Print(%.900v): %.900q, %v, not %.900q", r, s, e, want)
	}
	checkPrint(t, r)
}

// checkUnformed: r isn't formed, so that it has no text.
func checkUnformed(t *testing.T, r api.Row) {
	t.Helper()
	if s, e := line.Print(r); s != "" || e != api.ErrArg {
		t.Errorf("Print(%.900v): %.900q, %v, not ErrArg", r, s, e)
	}
	checkPrint(t, r)
}

// TestPrint: P17.1, P17.3, written out.
func TestPrint(t *testing.T) {
	checkText(t, row(of("cpu", "host", "a"), 10, "n", integer(3), "v", float(1.5)), `cpu,host=a n=3i,v=1.5 10`)
	checkText(t, row(of("m"), 0, "f", boolean(1)), `m f=true 0`)
	checkText(t, row(of("m"), -1, "f", boolean(0)), `m f=false -1`)
	checkText(t, row(of("m"), least, "f", text("")), `m f="" -9223372036854775808`)
	checkText(t, row(of("m"), most, "f", integer(least)), `m f=-9223372036854775808i 9223372036854775807`)
	checkText(t, row(of("m"), 1, "f", text("a b,c=d#e\\\"\n")), `m f="a b,c=d#e\\\"\n" 1`)
	checkText(t, row(of(`,= #\`, `,= #\`, `,= #\`), 1, `,= #\`, float(math.Copysign(0, -1))), `\,\=\ \#\\,\,\=\ \#\\=\,\=\ \#\\ \,\=\ \#\\=-0 1`)
	checkText(t, row(of("a", "1", "x", "10", "y", "2", "z"), 1, " ", float(1), "#", float(2), ",", float(3), "10", float(4), "2", float(1e16)), `a,1=x,10=y,2=z \ =1,\#=2,\,=3,10=4,2=1e16 1`)
	checkText(t, row(of("café", "\xff", "\x80"), 1, `"q"`, text("\x00\r\xff")), "café,\xff=\x80 \"q\"=\"\x00\r\xff\" 1")
	checkText(t, row(api.Series{Name: "m", Tags: []api.Tag{}}, 5, "i", integer(0), "t", float(math.MaxFloat64)), `m i=0i,t=1.7976931348623157e308 5`)
}

// TestPrintOfUnformed: P17.1, each thing that isn't formed, at each place.
func TestPrintOfUnformed(t *testing.T) {
	for _, s := range []api.Series{{}, of("", "k", "v"), of("a\n"), of(long("a", 65)), of("a", "", "v"), of("a", "k", ""), of("a", "k", "\x7f"), of("a", "l", "v", "k", "v"), of("a", "k", "v", "k", "v"), of("a", long("k", 65), "v"), of("a", "k", "1", "m", "2", "l", "3")} {
		checkUnformed(t, row(s, 1, "f", float(1)))
	}
	for _, key := range []string{"", "\n", "f\x1f", "\x7f", long("f", 65), long(",", 65)} {
		checkUnformed(t, row(of("a"), 1, key, float(1)))
		checkUnformed(t, row(of("a"), 1, key, float(1), "z", float(1)))
		checkUnformed(t, row(of("a"), 1, " ", float(1), key, float(1)))
	}
	for _, v := range []api.Value{
		{}, {Kind: 5}, {Kind: -1}, float(math.NaN()), float(math.Inf(1)), float(math.Inf(-1)), boolean(2), boolean(1 << 63), text(long("x", 65537)),
		{Kind: api.Float, Text: "x"}, {Kind: api.Integer, Text: "x"}, {Kind: api.Boolean, Text: "x"}, {Kind: api.String, Bits: 1, Text: "x"},
	} {
		checkUnformed(t, row(of("a"), 1, "f", v))
		checkUnformed(t, row(of("a"), 1, "f", v, "g", float(1)))
		checkUnformed(t, row(of("a"), 1, "f", float(1), "g", v))
	}
	checkUnformed(t, api.Row{})
	checkUnformed(t, row(of("a"), 1))
	checkUnformed(t, api.Row{Series: of("a"), Fields: []api.Field{}})
	checkUnformed(t, row(of("a"), 1, "g", float(1), "f", float(1)))
	checkUnformed(t, row(of("a"), 1, "f", float(1), "f", float(1)))
	checkUnformed(t, row(of("a"), 1, "f", float(1), "f", float(2)))
	checkUnformed(t, row(of("a"), 1, "f", float(1), "h", float(1), "g", float(1)))
	checkUnformed(t, row(of("a"), 1, "f", float(1), "g", float(1), "g", float(1)))
}

// TestPrintAtLimits: P17.1, P17.3, up to 8 tags, 16 fields, 64 bytes of a name and 65536 of a string, and one more.
func TestPrintAtLimits(t *testing.T) {
	for tags := range 11 {
		for fields := range 19 {
			r := api.Row{Series: of("a"), Time: most}
			for i := range tags {
				r.Series.Tags = append(r.Series.Tags, api.Tag{Key: fmt.Sprintf("k%02d", i), Value: "v"})
			}
			for i := range fields {
				r.Fields = append(r.Fields, api.Field{Key: fmt.Sprintf("f%02d", i), Value: integer(int64(i))})
			}
			if (tags <= 8 && 1 <= fields && fields <= 16) != formed(r) {
				t.Error(tags, fields)
			}
			checkPrint(t, r)
		}
	}
	for _, c := range []string{"x", ",", `\`, "\xff"} {
		for n := range 67 {
			name := long(c, n)
			checkPrint(t, row(of(name, "k", "v"), 1, "f", float(1)))
			checkPrint(t, row(of("a", name, "v"), 1, "f", float(1)))
			checkPrint(t, row(of("a", "k", name), 1, "f", float(1)))
			checkPrint(t, row(of(name, name, name), 1, name, float(1)))
		}
	}
	for _, c := range []string{"x", `"`, `\`, "\n", ",", " "} {
		for _, n := range []int{65535, 65536, 65537} {
			checkPrint(t, row(of("a"), 1, "f", text(long(c, n)), "g", float(1)))
		}
	}
}

// TestThereAndBack: P17.3, and P17.1 of any row.
func TestThereAndBack(t *testing.T) {
	random := rand.New(rand.NewSource(1))
	found := 0
	for range 30000 {
		r := someRow(random)
		checkPrint(t, r)
		if formed(r) {
			found++
		}
	}
	if found < 10000 || found > 29000 {
		t.Error("too few of the rows were formed, or not formed:", found)
	}
}

// TestRowsStay: R2, R3, a row that is handed in isn't changed, nor its spare room.
func TestRowsStay(t *testing.T) {
	tags := []api.Tag{{Key: "a", Value: "1"}, {Key: "b", Value: "2"}, {Key: "x", Value: "y"}, {}}
	fields := []api.Field{{Key: "f", Value: float(1)}, {Key: "g", Value: text("z")}, {Key: "a", Value: float(2)}, {}}
	tagsBefore, fieldsBefore := slices.Clone(tags), slices.Clone(fields)
	for range 2 {
		checkText(t, api.Row{Series: api.Series{Name: "s", Tags: tags[:2]}, Fields: fields[:2], Time: 3}, `s,a=1,b=2 f=1,g="z" 3`)
		checkUnformed(t, api.Row{Series: api.Series{Name: "s", Tags: tags[:4]}, Fields: fields[:4], Time: 3})
	}
	if !slices.Equal(tags, tagsBefore) || !slices.Equal(fields, fieldsBefore) {
		t.Error("the row is another one now:", tags, fields)
	}
}

// TestPrintOfMuch: R1, rows far above the limits.
func TestPrintOfMuch(t *testing.T) {
	r := row(of("a"), 1, "f", float(1))
	for i := range 1 << 18 {
		r.Series.Tags = append(r.Series.Tags, api.Tag{Key: fmt.Sprintf("k%09d", i), Value: "v"})
		r.Fields = append(r.Fields, api.Field{Key: fmt.Sprintf("k%09d", i), Value: float(1)})
	}
	checkUnformed(t, r)
	checkUnformed(t, row(of("a"), 1, strings.Repeat("f", 1<<22), float(1)))
	checkUnformed(t, row(of("a"), 1, "f", text(strings.Repeat("f", 1<<22))))
}
