package series_test

import (
	"math/rand"
	"slices"
	"strconv"
	"strings"
	"testing"

	"grist/api"
	"grist/series"
)

// TestText: P15.1, written out.
func TestText(t *testing.T) {
	checkFormed(t, of("cpu"), `cpu`)
	checkFormed(t, of("cpu", "host", "a b"), `cpu,host=a\ b`)
	checkFormed(t, of("cpu", "host", "a", "region", "west"), `cpu,host=a,region=west`)
	checkFormed(t, of(`,= #\`, `,= #\`, `,= #\`), `\,\=\ \#\\,\,\=\ \#\\=\,\=\ \#\\`)
	checkFormed(t, of(`\\`, `\`, ` `, `\,`, `=`), `\\\\,\\=\ ,\\\,=\=`)
	checkFormed(t, of("#", "=", "="), `\#,\==\=`)
	checkFormed(t, of("café", "naïve", "\xff\x80"), "café,naïve=\xff\x80")
	checkFormed(t, of(`a"b'c`, "t/x", "1.5e3;!"), `a"b'c,t/x=1.5e3;!`)
	checkFormed(t, of("a", "1", "1", "10", "1", "2", "1"), `a,1=1,10=1,2=1`)
	checkFormed(t, api.Series{Name: "a", Tags: []api.Tag{}}, `a`)
}

// TestUnformed: P15.1, wrong names and tags, at each place.
func TestUnformed(t *testing.T) {
	checkUnformed(t, api.Series{})
	checkUnformed(t, of("", "k", "v"))
	checkUnformed(t, of("a", "", "v"))
	checkUnformed(t, of("a", "k", ""))
	checkUnformed(t, of("a", "k", "v", "l", ""))
	checkUnformed(t, of("a", "", "v", "k", "v"))
	checkUnformed(t, of("a\n"))
	checkUnformed(t, of("a", "k\t", "v"))
	checkUnformed(t, of("a", "k", "\x7fv"))
	checkUnformed(t, of("a", "k", "v", "k", "v"))
	checkUnformed(t, of("a", "k", "v", "k", "w"))
	checkUnformed(t, of("a", "l", "v", "k", "w"))
	checkUnformed(t, of("a", "k", "1", "l", "2", "l", "3"))
	checkUnformed(t, of("a", "k", "1", "m", "2", "l", "3"))
}

// TestBytesOfNames: P15.1, each byte, in each place of each name.
func TestBytesOfNames(t *testing.T) {
	for i := range 256 {
		c := string([]byte{byte(i)})
		text := c
		if strings.Contains(signs, c) {
			text = `\` + c
		}
		if got := series.Escape(c); got != text {
			t.Errorf("Escape(%q): %q", c, got)
		}
		for _, around := range [][2]string{{"", ""}, {"x", ""}, {"", "x"}, {"x", "y"}, {"é", "é"}} {
			name, written := around[0]+c+around[1], around[0]+text+around[1]
			if i < 32 || i == 127 {
				checkUnformed(t, of(name, "k", "v"))
				checkUnformed(t, of("a", name, "v"))
				checkUnformed(t, of("a", "k", name))
				checkNone(t, written+",k=v")
				checkNone(t, "a,"+written+"=v")
				checkNone(t, "a,k="+written)
				continue
			}
			checkFormed(t, of(name, "k", "v"), written+",k=v")
			checkFormed(t, of("a", name, "v"), "a,"+written+"=v")
			checkFormed(t, of("a", "k", name), "a,k="+written)
		}
	}
}

// TestLengthsOfNames: P15.1, names of 1 to 64 bytes, however long their texts.
func TestLengthsOfNames(t *testing.T) {
	for _, n := range []int{0, 1, 2, 32, 33, 63, 64, 65, 66, 127, 128, 129, 255, 256, 257, 320, 1 << 16} {
		for _, c := range []string{"x", "\xff", "é", ",", "=", " ", "#", `\`} {
			name := strings.Repeat(c, n)[:n]
			for _, s := range []api.Series{of(name), of(name, "k", "v"), of("a", name, "v"), of("a", "k", name), of(name, name, name)} {
				if got := series.Formed(s); got != (1 <= n && n <= 64) {
					t.Errorf("Formed(%.900q): %t", s, got)
				}
				checkSeries(t, s)
			}
		}
	}
}

// TestManyTags: P15.1, at most 8; the longest text of all.
func TestManyTags(t *testing.T) {
	long := strings.Repeat(`\`, 62)
	s, text := of(long+`,,`), strings.Repeat(`\\`, 62)+`\,\,`
	for i := range 12 {
		if i <= 8 {
			checkFormed(t, s, text)
		} else {
			checkUnformed(t, s)
			checkNone(t, text)
		}
		// The keys rise as their last bytes do.
		last := string([]byte{byte('A' + i)})
		s.Tags = append(s.Tags, api.Tag{Key: long + "#" + last, Value: long + "=="})
		text += "," + strings.Repeat(`\\`, 62) + `\#` + last + "=" + strings.Repeat(`\\`, 62) + `\=\=`
	}
	s = of(strings.Repeat("#", 64))
	for i := range 8 {
		key := []byte(strings.Repeat(" ", 64))
		key[i] = '\\'
		s.Tags = append([]api.Tag{{Key: string(key), Value: strings.Repeat(",", 64)}}, s.Tags...)
	}
	slices.SortFunc(s.Tags, func(a, b api.Tag) int { return strings.Compare(a.Key, b.Key) })
	text = textOf(s)
	if len(text) != 2192 {
		t.Fatal(len(text))
	}
	checkFormed(t, s, text)
	for _, more := range []string{"a", ",", "=", " ", "#", `\`, `\ `, ",a=b", "\n"} {
		checkNone(t, text+more)
		checkNone(t, more+text)
	}
}

// TestOrderOfKeys: P15.1, byte by byte, and not by their texts.
func TestOrderOfKeys(t *testing.T) {
	rising := []string{" ", "!", "#", ",", ",a", "-", "0", "10", "2", "=", "==", "A", "Z", "[", `\`, `\\`, "]", "a", "a ", "a,", "a=", "aa", "ab", "b", "~", "\x80", "é", "\xff", "\xff\xff"}
	for i, one := range rising {
		for j, other := range rising {
			s := of("s", one, "v", other, "v")
			if got := series.Formed(s); got != (i < j) {
				t.Errorf("Formed(%q): %t", s, got)
			}
			checkSeries(t, s)
			checkSeries(t, of("s", "\x20", "v", one, "v", other, "v"))
		}
	}
}

// TestEscape: P15.1, of any bytes, be they a name or not.
func TestEscape(t *testing.T) {
	for _, x := range [][2]string{
		{"", ""}, {"cpu", "cpu"}, {"a b", `a\ b`}, {`,= #\`, `\,\=\ \#\\`}, {`\\`, `\\\\`}, {`\,`, `\\\,`},
		{"\n\t\x00\x7f", "\n\t\x00\x7f"}, {"é\xff \xfe", "é\xff\\ \xfe"}, {"  ", `\ \ `}, {`"'`, `"'`},
		{strings.Repeat("x", 1000), strings.Repeat("x", 1000)}, {strings.Repeat("a,", 1<<20), strings.Repeat(`a\,`, 1<<20)},
	} {
		if got := series.Escape(x[0]); got != x[1] {
			t.Errorf("Escape(%.100q): %.100q", x[0], got)
		}
	}
	random := rand.New(rand.NewSource(1))
	for range 20000 {
		b := make([]byte, random.Intn(100))
		random.Read(b)
		for i := range b {
			b[i] >>= random.Intn(3)
		}
		if got := series.Escape(string(b)); got != escaping.Replace(string(b)) {
			t.Errorf("Escape(%q): %q", b, got)
		}
	}
}

// TestTag: P15.1, the first tag of that Key, of a series that is formed or not.
func TestTag(t *testing.T) {
	s := of("cpu", "host", "a b", "k", "1", "", "empty", "k", "2", "none", "", "none", "3", "\n", "line", "Host", "A")
	for _, x := range []struct {
		key, want string
		is        bool
	}{
		{"host", "a b", true}, {"k", "1", true}, {"", "empty", true}, {"none", "", true}, {"\n", "line", true}, {"Host", "A", true},
		{"hos", "", false}, {"hosts", "", false}, {"cpu", "", false}, {"a b", "", false}, {"1", "", false}, {"HOST", "", false}, {" k", "", false},
	} {
		if got, is := series.Tag(s, x.key); got != x.want || is != x.is {
			t.Errorf("Tag(%q, %q): %q, %t", s, x.key, got, is)
		}
	}
	for _, s := range []api.Series{{}, of("cpu"), {Tags: []api.Tag{}}, of("k", "l", "k")} {
		for _, key := range []string{"", "k", "cpu"} {
			if got, is := series.Tag(s, key); got != "" || is {
				t.Errorf("Tag(%q, %q): %q, %t", s, key, got, is)
			}
		}
	}
}

// TestMuch: R1, arguments far above the limits.
func TestMuch(t *testing.T) {
	s := of("a")
	for i := range 1 << 18 {
		s.Tags = append(s.Tags, api.Tag{Key: "k" + strconv.Itoa(i+1<<20), Value: "v"})
	}
	checkUnformed(t, s)
	if got, is := series.Tag(s, s.Tags[1<<18-1].Key); got != "v" || !is {
		t.Error(got, is)
	}
	checkUnformed(t, of(strings.Repeat(" ", 1<<22)))
	for _, piece := range []string{"a", ",", "=", "#", " ", `\`, `\ `, ",a=b", "=b,a", "\n", "\xff"} {
		checkNone(t, strings.Repeat(piece, 1<<20))
		checkNone(t, "a,"+strings.Repeat(piece, 1<<20))
		checkNone(t, "a,b="+strings.Repeat(piece, 1<<20))
		checkNone(t, strings.Repeat(piece, 1<<20)+"a,b=c")
	}
}

// TestThingsStay: R2, R3, what is handed in isn't changed, nor its spare room; each answer has its own memory.
func TestThingsStay(t *testing.T) {
	room := []api.Tag{{Key: "a", Value: "1"}, {Key: "b", Value: "2"}, {Key: "x", Value: "y"}, {}}
	before := slices.Clone(room)
	s := api.Series{Name: "s", Tags: room[:2]}
	for range 2 {
		checkFormed(t, s, "s,a=1,b=2")
		if v, is := series.Tag(s, "b"); v != "2" || !is {
			t.Error(v, is)
		}
		if v, is := series.Tag(s, "x"); v != "" || is {
			t.Error(v, is)
		}
	}
	if !slices.Equal(room, before) {
		t.Errorf("the tags are %q now", room)
	}
	first, _ := series.Parse("s,a=1,b=2,c=3")
	second, _ := series.Parse("s,a=1,b=2,c=3")
	clear(first.Tags[:cap(first.Tags)])
	if !same(second, of("s", "a", "1", "b", "2", "c", "3")) {
		t.Errorf("the answer is %q now", second)
	}
	checkText(t, "s,a=1,b=2,c=3", second)
}
