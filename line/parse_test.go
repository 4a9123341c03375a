package line_test

import (
	"fmt"
	"math"
	"math/rand"
	"slices"
	"strings"
	"testing"

	"grist/api"
	"grist/line"
)

// TestParse: P17.1, written out.
func TestParse(t *testing.T) {
	checkRead(t, `cpu,host=a v=1.5,n=3i 10`, row(of("cpu", "host", "a"), 10, "n", integer(3), "v", float(1.5)))
	checkRead(t, `m f=1`, row(of("m"), 77, "f", float(1)))
	checkRead(t, `m,c=1,a=2,b=3 z=1,x=2,y=3`, row(of("m", "a", "2", "b", "3", "c", "1"), -5, "x", float(2), "y", float(3), "z", float(1)))
	checkRead(t, `m,10=a,2=b,1=c 10=1,2=2,1=3 4`, row(of("m", "1", "c", "10", "a", "2", "b"), 4, "1", float(3), "10", float(1), "2", float(2)))
	checkRead(t, `\,\=\ \#\\,\,\=\ \#\\=\,\=\ \#\\ \,\=\ \#\\=t 1`, row(of(`,= #\`, `,= #\`, `,= #\`), 1, `,= #\`, boolean(1)))
	checkRead(t, `a\\,k\\=v\\ f\\=1`, row(of(`a\`, `k\`, `v\`), 1, `f\`, float(1)))
	checkRead(t, `a\\\ b\ ,k=\  f\ =1`, row(of(`a\ b `, "k", " "), 1, "f ", float(1)))
	checkRead(t, `m \==1`, row(of("m"), 1, "=", float(1)))
	checkRead(t, `m "=1`, row(of("m"), 1, `"`, float(1)))
	checkRead(t, `m "a\ b"="c d" 1`, row(of("m"), 1, `"a b"`, text("c d")))
	checkRead(t, `m,-1=-2 -3=-4 -5`, row(of("m", "-1", "-2"), -5, "-3", float(-4)))
	checkRead(t, "m\xff,\x80=\xfe \xfd=1", row(of("m\xff", "\x80", "\xfe"), 1, "\xfd", float(1)))
	checkRead(t, "é,è=ê ë=1", row(of("é", "è", "ê"), 1, "ë", float(1)))
	checkRead(t, `m a\,b=1,c=2`, row(of("m"), 1, "a,b", float(1), "c", float(2)))
}

// TestValues: P17.1, values as layer 1 reads them.
func TestValues(t *testing.T) {
	for _, x := range []struct {
		written string
		want    api.Value
	}{
		{"0", float(0)}, {"-0", float(math.Copysign(0, -1))}, {"1.50", float(1.5)}, {"-1e3", float(-1000)}, {"1E+2", float(100)}, {"007", float(7)}, {"1e-400", float(0)}, {"1.7976931348623157e308", float(math.MaxFloat64)},
		{"0i", integer(0)}, {"-0i", integer(0)}, {"-7i", integer(-7)}, {"9223372036854775807i", integer(most)}, {"-9223372036854775808i", integer(least)}, {"0000000000000000000000001i", integer(1)},
		{"t", boolean(1)}, {"T", boolean(1)}, {"true", boolean(1)}, {"True", boolean(1)}, {"TRUE", boolean(1)}, {"f", boolean(0)}, {"F", boolean(0)}, {"false", boolean(0)}, {"False", boolean(0)}, {"FALSE", boolean(0)},
		{`""`, text("")}, {`"a"`, text("a")}, {`" "`, text(" ")}, {`","`, text(",")}, {`"="`, text("=")}, {`"#"`, text("#")}, {`"a,b=1 2"`, text("a,b=1 2")}, {`"\""`, text(`"`)}, {`"\\"`, text(`\`)}, {`"\\\""`, text(`\"`)}, {`"\n"`, text("\n")}, {`"\\n"`, text(`\n`)}, {"\"\r\t\x00\xff\"", text("\r\t\x00\xff")}, {`" \" , \\"`, text(` " , \`)},
	} {
		checkRead(t, "m f="+x.written, row(of("m"), 3, "f", x.want))
		checkRead(t, "m f="+x.written+" 5", row(of("m"), 5, "f", x.want))
		checkRead(t, "m f="+x.written+",g=t 5", row(of("m"), 5, "f", x.want, "g", boolean(1)))
		checkRead(t, "m g=t,f="+x.written+",e=f", row(of("m"), 5, "e", boolean(0), "f", x.want, "g", boolean(1)))
		for _, behind := range []string{"x", `"`, `\`, "=", `""`, "\n", "\x00", "\xff", ",", " ", ", 1", ",,g=1", " x", " 1x", " -", " 1 2", " 1,g=1", `\ 1`, `\,g=1`, " 1\n", " 1\r"} {
			checkFault(t, "m f="+x.written+behind, api.ErrForm)
		}
	}
	for _, none := range []string{"", "x", "1.", ".5", "+1", "1e", "1e+", "i", "-i", "1I", "0x1", "1_0", "NaN", "Inf", "tr", "TRue", "1ii", "00000000000000000000000001i", long("1", 401), `"`, `"a`, `"\"`, `"\\\"`, `a"b"`, `"a\x"`, "\"\n\"", `'a'`, "-", "--1", "\x80"} {
		for _, around := range [][2]string{{"", ""}, {"", " 1"}, {"", ",g=1"}, {"g=1,", ""}, {"g=1,", ",h=1 5"}} {
			checkFault(t, "m "+around[0]+"f="+none+around[1], api.ErrForm)
		}
	}
}

// TestTimes: P17.1, at the edges of what a Time is; the time that is handed in counts if there is none.
func TestTimes(t *testing.T) {
	for written, want := range map[string]int64{
		"0": 0, "-0": 0, "1": 1, "-1": -1, "007": 7, "-007": -7, "9223372036854775807": most, "-9223372036854775808": least,
		"0000000000000000000000000": 0, "-0000000000000000000000001": -1, "0000009223372036854775807": most, "-0000009223372036854775808": least,
	} {
		for _, now := range []int64{0, -1, most, least} {
			if r, e := line.Parse("m f=1 "+written, now); e != api.OK || !same(r, row(of("m"), want, "f", float(1))) {
				t.Error(written, now, r, e)
			}
		}
	}
	for _, now := range []int64{0, 1, -1, 99, most, least} {
		checkRead(t, "m f=1", row(of("m"), now, "f", float(1)))
		checkRead(t, `m f=" 5"`, row(of("m"), now, "f", text(" 5")))
	}
	for _, beyond := range []string{"9223372036854775808", "-9223372036854775809", "99999999999999999999", "-99999999999999999999", "9999999999999999999999999", "-9999999999999999999999999", "0000009223372036854775808"} {
		checkFault(t, "m f=1 "+beyond, api.ErrRange)
		checkFault(t, "m f=1,f=1 "+beyond, api.ErrRange)
		checkFault(t, "m,k=1,k=1 f=1 "+beyond, api.ErrRange)
		for _, behind := range []string{"i", "x", " ", " 5", ",", "-", ".0", "\n", "\r", "\xff"} {
			checkFault(t, "m f=1 "+beyond+behind, api.ErrForm)
		}
	}
	for _, none := range []string{"", "-", "+", "+1", "--1", "1-", "-1-", " 1", "1 ", "1.0", "1e3", "1i", "0x1", "1_0", "x", `"1"`, "1,g=1", "t", "\x001", "٣", "00000000000000000000000000", "-00000000000000000000000000", long("9", 26), "-" + long("9", 26), long("1", 1<<20)} {
		checkFault(t, "m f=1 "+none, api.ErrForm)
		checkFault(t, "m f=1,f=2 "+none, api.ErrForm)
	}
}

// TestParseOfNone: P17.1, what is read as no row.
func TestParseOfNone(t *testing.T) {
	for _, s := range []string{
		"", " ", ",", "=", "#", `\`, `"`, "\n", "m", "m ", "m f", "m f=", "m ,f=1", "m =1", " f=1", ",k=v f=1", "=v f=1", // without all of a row
		"m  f=1", "m f= 1", "m f =1", "m f=1  5", "m f=1 5 ", " m f=1", "m\tf=1", "m f=1\t5", "m, k=v f=1", "m,k=v , f=1", // blanks
		"m, f=1", "m,k f=1", "m,k= f=1", "m,=v f=1", "m,= f=1", "m,,k=v f=1", "m,k=v, f=1", "m,k=v,l f=1", "m,k=v,l= f=1", "m,k=v,=w f=1", // without all of a tag
		"m=1 f=1", "m,k=v=w f=1", "m,k==v f=1", "m k=v f=1", "m,k f=1,g=2", // signs where there are none
		"m f,g=1", "m f=1,g", "m f=1,g=", "m f=1,=2", "m f=1,", "m f=1,,g=2", "m f==1", "m f=1=2", "m f=1,g h=2", `m f\=1`, `m f=1,g\=2`, // without all of a field
		"#m f=1", "# m f=1", "m# f=1", "m,#k=v f=1", "m,k=#v f=1", "m #f=1", "m f#=1", "m f=1#", "m f=1 5#", "#", // # without a backslash
		`\m f=1`, `m\ f=1`, `m\x f=1`, `m,k\x=v f=1`, `m,k=v\x f=1`, `m f\x=1`, `m,k\=v f=1`, `m,k=v\ f=1`, `m\,k=v f=1=`, `m f=1\`, `m\`, `m f=1 \5`, `"m" f=1 "5"`, // backslashes ahead of other bytes
		"m\n f=1", "m,k\t=v f=1", "m,k=v\x00 f=1", "m f\x7f=1", "m f=1\n", "m f=1\r", "m f=1 5\r", "\nm f=1", "m f=1\nm f=2", // no names
	} {
		checkFault(t, s, api.ErrForm)
	}
	for i := range 256 {
		c := string([]byte{byte(i)})
		checkAnything(t, c+" f=1", 1)
		checkAnything(t, "m,"+c+"=v f=1", 1)
		checkAnything(t, "m,k="+c+" f=1", 1)
		checkAnything(t, "m "+c+"=1", 1)
		checkAnything(t, `m \`+c+"=1", 1)
		checkAnything(t, `\`+c+" f=1", 1)
		checkAnything(t, "m f="+c, 1)
		checkAnything(t, `m f="`+c+`"`, 1)
		checkAnything(t, `m f="\`+c+`"`, 1)
		checkAnything(t, "m f=1"+c, 1)
		checkAnything(t, "m f=1 "+c, 1)
		if i < 32 || i == 127 {
			for _, s := range []string{"a" + c + " f=1", "m,k" + c + "=v f=1", "m,k=v" + c + " f=1", "m f" + c + "=1", `m \` + c + "=1"} {
				checkFault(t, s, api.ErrForm)
			}
		}
	}
}

// TestFirstFault: P17.1, from the left what is wrong first counts; keys that are alike, and too many, are wrong at the end of the line.
func TestFirstFault(t *testing.T) {
	tooLong := `"` + long("x", 65537) + `"`
	for _, x := range []struct {
		held string
		want api.Errno
	}{{"1e999", api.ErrRange}, {"-1e309", api.ErrRange}, {"99999999999999999999i", api.ErrRange}, {"9223372036854775808i", api.ErrRange}, {tooLong, api.ErrLong}} {
		// Whatever stands behind the value, up to its end nothing else is wrong.
		for _, behind := range []string{"", " 1", " x", " ", "  ", " 1 2", ",", ",x", ",=1", ",g=", ",g=x", ",g=1", ",g=1e999", ",g=1e999i", ",g=" + tooLong, ",f=1", ",f=1,f=1", ",g=1 99999999999999999999", " 99999999999999999999", ",\n=1", ",g h=1"} {
			checkFault(t, "m f="+x.held+behind, x.want)
			checkFault(t, "m e=1,f="+x.held+behind, x.want)
			checkFault(t, "m f=1,f="+x.held+behind, x.want)
			checkFault(t, "m,k=1,k=2 f="+x.held+behind, x.want)
			checkFault(t, "m"+many(",k%d=v", 9)+" "+strings.TrimPrefix(many(",f%d=1", 17), ",")+",f="+x.held+behind, x.want)
		}
		for _, ahead := range []string{"", " ", "m", "m,", "m=1 ", "m, ", "m,k ", "m,k= ", "#m ", "m\n ", "\x7f ", long("m", 65) + " ", "m," + long("k", 65) + "=v ", "m,k=" + long("v", 65) + " ", "m,k=\x7f ", "m g=x,", "m g=,", "m x,", "m  ", "m g=1, ", "m =1,", "m g=1 ", "m g=1 x,", "m g=1 5,", "m g=1 5 ", "m g=\"a\"b,", "m g=1\n,", "m " + long("g", 65) + "=1,"} {
			checkFault(t, ahead+"f="+x.held, api.ErrForm)
		}
		for _, key := range []string{"", "\n", "f\x7f", long("f", 65), "f g", "f,g", "#f", `\f`} {
			checkFault(t, "m "+key+"="+x.held, api.ErrForm)
			checkFault(t, "m e=1,"+key+"="+x.held, api.ErrForm)
		}
	}
	checkFault(t, "m f=1e999,g="+tooLong, api.ErrRange)
	checkFault(t, "m f="+tooLong+",g=1e999", api.ErrLong)
	checkFault(t, "m f="+tooLong+"x", api.ErrLong)
	checkFault(t, "m f="+tooLong[:65538], api.ErrForm)
	checkFault(t, `m f="\x`+tooLong[1:], api.ErrForm)
	checkFault(t, "m f=\"\n"+tooLong[1:], api.ErrForm)
	checkFault(t, "m f=1e999x", api.ErrForm)
	checkFault(t, "m f=1e999\n", api.ErrForm)
	checkFault(t, `m f=1e999\,g=1`, api.ErrForm)
	checkFault(t, `m f=1e999"`, api.ErrForm)
}

// many is a pattern filled in with 0, 1, 2 and so on.
func many(pattern string, count int) string {
	var all strings.Builder
	for i := range count {
		fmt.Fprintf(&all, pattern, i)
	}
	return all.String()
}

// TestAlike: P17.1, tags or fields of one key, next to each other or not, written in one way or not.
func TestAlike(t *testing.T) {
	for _, s := range []string{
		"m,a=1,a=2 f=1", "m,a=1,a=1 f=1", "m,a=1,b=2,a=3 f=1", "m,b=1,a=2,b=1 f=1", "m f=1,f=2", "m f=1,f=1 5", "m f=1,g=1,f=t", `m g=1,f=1,g="x"`, `m,\,=1,\,=2 f=1`, `m \ =1,\ =2`, "m,a=1,b=1,b=1 f=1,g=1,g=1",
	} {
		checkFault(t, s, api.ErrForm)
	}
	checkRead(t, "m,f=1,v=m f=1,v=2,m=3", row(of("m", "f", "1", "v", "m"), 1, "f", float(1), "m", float(3), "v", float(2)))
	checkRead(t, "f,f=f f=f", row(of("f", "f", "f"), 1, "f", boolean(0)))
	checkRead(t, "m,a=1,A=2,aa=3 f=1,F=2,ff=3", row(of("m", "A", "2", "a", "1", "aa", "3"), 1, "F", float(2), "f", float(1), "ff", float(3)))
}

// TestParseAtLimits: P17.1, up to 8 tags, 16 fields, 64 bytes of a name and 65536 of a string, and one more.
func TestParseAtLimits(t *testing.T) {
	for tags := range 11 {
		for fields := 1; fields < 19; fields++ {
			s := "m" + many(",k%02d=v", tags) + " " + strings.TrimPrefix(many(",f%02d=1", fields), ",")
			if checkAnything(t, s, 1) != (tags <= 8 && fields <= 16) {
				t.Error(tags, fields)
			}
			checkAnything(t, s+",f00=1", 1)
			checkAnything(t, s+" 99999999999999999999", 1)
		}
	}
	for _, c := range []string{"x", `\,`, `\\`, `\ `, `\=`, `\#`} {
		for n := range 67 {
			name := strings.Repeat(c, n)
			is := 1 <= n && n <= 64
			for _, s := range []string{name + " f=1", "m," + name + "=v f=1", "m,k=" + name + " f=1", "m " + name + "=1", "m e=1," + name + "=1 5", name + "," + name + "=" + name + " " + name + "=1"} {
				if checkAnything(t, s, 1) != is {
					t.Errorf("%q: %t", s, !is)
				}
			}
		}
	}
	for c, meant := range map[string]string{"x": "x", `\"`: `"`, `\\`: `\`, `\n`: "\n", ",": ",", " ": " ", "=": "="} {
		for _, n := range []int{65535, 65536} {
			checkRead(t, `m g="`+strings.Repeat(c, n)+`",f=1 5`, row(of("m"), 5, "f", float(1), "g", text(strings.Repeat(meant, n))))
		}
		checkFault(t, `m g="`+strings.Repeat(c, 65537)+`",f=1 5`, api.ErrLong)
	}
	checkRead(t, "m f="+long("0", 400), row(of("m"), 1, "f", float(0)))
	checkFault(t, "m f="+long("0", 401), api.ErrForm)
}

// TestAllShortLines: P17.1, P17.3, each text of some signs, whole and behind the beginning of a row.
func TestAllShortLines(t *testing.T) {
	shortLines(t, "", "", "a,= \\1", 7)
	shortLines(t, "", " a=1", "ab,= #\\", 6)
	shortLines(t, "a ", "", "ab,= \"\\1", 6)
	shortLines(t, "a a=", "", "1-it,= \"", 6)
	shortLines(t, "a a=\"", "", "\\\"n ,=\n", 6)
}

func shortLines(t *testing.T, ahead, behind, alphabet string, longest int) {
	t.Helper()
	found := 0
	texts := []string{""}
	for range longest {
		var longer []string
		for _, text := range texts {
			for _, c := range alphabet {
				longer = append(longer, text+string(c))
			}
		}
		for _, text := range longer {
			if checkAnything(t, ahead+text+behind, 1) {
				found++
			}
		}
		texts = longer
	}
	if found < 30 {
		t.Errorf("%d lines behind %q were rows", found, ahead)
	}
}

// TestChangedLines: P17.1, lines with bytes that are changed, left out, or more.
func TestChangedLines(t *testing.T) {
	for _, s := range []string{`c\ p,b=\=1,a\,=x\# v=1.5e3,n=-3i,t=T,s="a\"b, c\\" -12`, `m f=1e999,g="x" 9223372036854775807`} {
		for i := range len(s) + 1 {
			checkAnything(t, s[:i], 1)
			checkAnything(t, s[i:], 1)
			for c := range 256 {
				b := string([]byte{byte(c)})
				checkAnything(t, s[:i]+b+s[i:], 1)
				if i < len(s) {
					checkAnything(t, s[:i]+b+s[i+1:], 1)
				}
			}
			for j := range i {
				checkAnything(t, s[:j]+s[i:], 1)
				checkAnything(t, s[:i]+s[j:], 1)
			}
		}
	}
}

// someLine is a line of pieces that mostly stand where they may.
func someLine(random *rand.Rand) string {
	values := []string{"1", "-2.5", "3i", "t", "false", `"x"`, `"a, b"`, `"\"\\"`, "1e999", "99999999999999999999i", "x", "", `"`, `"\x"`, "1.", `"y"z`, `\`}
	times := []string{" 5", " -7", " 99999999999999999999", " x", " ", "", "", "", " 1 2", ",", "\r"}
	pick := func(list []string, usual int) string {
		if random.Intn(4) > 0 {
			return list[random.Intn(usual)]
		}
		return list[random.Intn(len(list))]
	}
	all := escaping.Replace(someName(random))
	for range max(random.Intn(14)-4, 0) {
		all += "," + escaping.Replace(someName(random)) + "=" + escaping.Replace(someName(random))
	}
	between := " "
	for range 1 + max(random.Intn(24)-6, 0) {
		all += between + escaping.Replace(someName(random)) + "=" + pick(values, 8)
		between = ","
	}
	all += pick(times, 2)
	if random.Intn(10) == 0 {
		i := random.Intn(len(all) + 1)
		all = all[:i] + string(signs[random.Intn(len(signs))]) + all[i:]
	}
	return all
}

// TestSomeLines: P17.1, P17.3, whatever lines come.
func TestSomeLines(t *testing.T) {
	random := rand.New(rand.NewSource(2))
	found := 0
	for range 60000 {
		if checkAnything(t, someLine(random), int64(random.Uint64())) {
			found++
		}
	}
	if found < 5000 || found > 55000 {
		t.Error("too few of the lines were rows, or none:", found)
	}
}

// TestParseOfMuch: R1, lines far above the limits.
func TestParseOfMuch(t *testing.T) {
	for _, piece := range []string{"a", ",", "=", "#", " ", `\`, `"`, "1", "-", "\n", `\ `, ",a=b", " a=1", "a=1,", `"a",`, "\xff"} {
		much := strings.Repeat(piece, 1<<20)
		for _, s := range []string{much, much + " f=1", "m" + much, "m," + much + "=v f=1", "m,k=" + much + " f=1", "m " + much, "m f=" + much, "m f=1 " + much, "m f=\"" + much} {
			if r, e := line.Parse(s, 1); e == api.OK || !same(r, api.Row{}) {
				t.Errorf("%.50q: %.900v, %v", s, r, e)
			}
		}
	}
	tags, fields := many(",k%d=v", 1<<18), strings.TrimPrefix(many(",f%d=1", 1<<18), ",")
	checkFault(t, "m"+tags+" f=1", api.ErrForm)
	checkFault(t, "m "+fields, api.ErrForm)
	checkFault(t, "m"+tags+" "+fields+" 99999999999999999999", api.ErrRange)
	checkFault(t, "m"+tags+" "+fields+",f=1e999", api.ErrRange)
}

// TestAnswersStay: R2, R3, each answer has its own memory, spare room too.
func TestAnswersStay(t *testing.T) {
	const s = `m,c=1,a=2,b=3 z=1,x="y",y=3 5`
	want := row(of("m", "a", "2", "b", "3", "c", "1"), 5, "x", text("y"), "y", float(3), "z", float(1))
	first, _ := line.Parse(s, 0)
	second, _ := line.Parse(s, 0)
	rows, _ := line.Batch(s+"\n"+s, 0)
	clear(first.Series.Tags[:cap(first.Series.Tags)])
	clear(first.Fields[:cap(first.Fields)])
	clear(rows[0].Series.Tags[:cap(rows[0].Series.Tags)])
	clear(rows[0].Fields[:cap(rows[0].Fields)])
	if !same(second, want) || !same(rows[1], want) {
		t.Error("the answers are others now:", second, rows[1])
	}
	_ = append(second.Fields, api.Field{Key: "more"})
	_ = append(second.Series.Tags, api.Tag{Key: "more"})
	third, _ := line.Parse(s, 0)
	if !same(third, want) || !slices.Equal(third.Series.Tags, second.Series.Tags) {
		t.Error("another answer:", third)
	}
}

func FuzzParse(f *testing.F) {
	random := rand.New(rand.NewSource(3))
	for range 20 {
		f.Add(someLine(random), int64(random.Uint64()))
	}
	f.Fuzz(func(t *testing.T, s string, now int64) {
		checkAnything(t, s, now)
		checkBatch(t, s, now)
		checkPrint(t, row(of("m"), now, s, text(s)))
	})
}
