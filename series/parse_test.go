package series_test

import (
	"math/rand"
	"strings"
	"testing"

	"grist/api"
	"grist/series"
)

// TestParse: P15.1, written out.
func TestParse(t *testing.T) {
	checkText(t, `cpu`, of("cpu"))
	checkText(t, `cpu,host=a\ b`, of("cpu", "host", "a b"))
	checkText(t, `\,\=\ \#\\,\,\=\ \#\\=\,\=\ \#\\`, of(`,= #\`, `,= #\`, `,= #\`))
	checkText(t, `a\\,k=v`, of(`a\`, "k", "v"))
	checkText(t, `a\\\,k\=v`, of(`a\,k=v`))
	checkText(t, "\xff,\x80=\xfe", of("\xff", "\x80", "\xfe"))
}

// TestParseOfNone: P15.1, what is no series' text.
func TestParseOfNone(t *testing.T) {
	for _, text := range []string{
		"", ",", "=", " ", "#", `\`, ",a=b", "=a", // without a name
		"a,", "a,b", "a,b=", "a,=c", "a,=", "a,,", "a,b=c,", "a,,b=c", "a,b=c,d", "a,b=c,=e", "a,b=c,d=", // without all of a tag
		"a=b", "a=b,c=d", "a,b=c=d", "a,b==c", "a,b=c,d=e=", // an equals sign where none is
		"a b", " a", "a ", "#a", "a#", "a,b =c", "a, b=c", "a,b=c ", "a,b=#c", "a,b#=c", // blanks and # without a backslash
		`a\`, `\a`, `a\b`, `a\\\`, `\n`, `a,b=\"c\"`, `a,b\=c`, `a\,b=c`, `a,b=c\`, "a\\\xff", "a\\\n", // backslashes ahead of other bytes
		"a,b=c,b=d", "a,b=c,b=c", "a,c=1,b=2", "a,b=1,d=2,c=3", `a,\,=1,\ =2`, // keys that don't rise
		"a\n", "a\t,b=c", "a,b\x00=c", "a,b=c\x7f", "cpu,host=a v=1 5", "\r", // no names
	} {
		checkNone(t, text)
		checkAnything(t, text)
	}
}

// TestAllShortTexts: P15.1, P15.2, each text of up to 7 signs: the series that has it, or none.
func TestAllShortTexts(t *testing.T) {
	const alphabet = "ab" + signs
	texts := []string{""}
	found := 0
	for range 7 {
		var longer []string
		for _, text := range texts {
			for _, c := range alphabet {
				longer = append(longer, text+string(c))
			}
		}
		for _, text := range longer {
			checkAnything(t, text)
			if _, is := told(text); is {
				found++
			}
		}
		texts = longer
	}
	if want := countOfTexts(7); found != want {
		t.Errorf("%d of the texts were those of a series, not %d", found, want)
	}
}

// countOfTexts is how many formed series, of names of those signs, have texts of at most so many bytes, which are fewer than 9: counted by the names, without a text that is read.
func countOfTexts(most int) int {
	names := make([][]string, most+1) // by the length of their texts
	names[0] = []string{""}
	for n := 1; n <= most; n++ {
		for _, c := range "ab" + signs {
			if long := len(escaping.Replace(string(c))); long <= n {
				for _, rest := range names[n-long] {
					names[n] = append(names[n], string(c)+rest)
				}
			}
		}
	}
	// With two tags a text has 9 bytes at least.
	count := 0
	for name := 1; name <= most; name++ {
		count += len(names[name])
		for key := 1; name+key+2 < most; key++ {
			for held := 1; name+key+held+2 <= most; held++ {
				count += len(names[name]) * len(names[key]) * len(names[held])
			}
		}
	}
	return count
}

// TestThereAndBack: P15.2, and P15.1 of any series.
func TestThereAndBack(t *testing.T) {
	random := rand.New(rand.NewSource(2))
	found := 0
	for range 50000 {
		s := someSeries(random)
		checkSeries(t, s)
		if formed(s) {
			found++
		}
	}
	if found < 10000 || found > 49000 {
		t.Error("too few of the series were formed, or not formed:", found)
	}
}

// TestParseOfChangedTexts: P15.1, texts with bytes that are changed, left out, or more.
func TestParseOfChangedTexts(t *testing.T) {
	text := textOf(of("c p", "a,b", "=1", "h", "x#", `i\`, "é"))
	for i := range text {
		checkAnything(t, text[:i])
		checkAnything(t, text[i:])
		checkAnything(t, text[:i]+text[i+1:])
		for c := range 256 {
			b := string([]byte{byte(c)})
			checkAnything(t, text[:i]+b+text[i:])
			checkAnything(t, text[:i]+b+text[i+1:])
		}
	}
}

// TestParseOfAnything: P15.1, whatever bytes come.
func TestParseOfAnything(t *testing.T) {
	random := rand.New(rand.NewSource(3))
	found := 0
	for range 100000 {
		var text strings.Builder
		for range random.Intn(12) {
			switch random.Intn(20) {
			case 0:
				text.WriteByte(byte(random.Intn(256)))
			case 1:
				text.WriteByte(signs[random.Intn(len(signs))])
			case 2, 3:
				text.WriteString(`\` + string(signs[random.Intn(len(signs))]))
			case 4, 5, 6, 7, 8:
				text.WriteString("," + string(rune('a'+random.Intn(26))) + "=x")
			default:
				text.WriteByte(byte('a' + random.Intn(26)))
			}
		}
		checkAnything(t, text.String())
		if _, is := told(text.String()); is {
			found++
		}
	}
	if found < 5000 || found > 95000 {
		t.Error("too few of the texts were those of a series, or of none:", found)
	}
}

func FuzzParse(f *testing.F) {
	random := rand.New(rand.NewSource(4))
	for range 20 {
		f.Add(textOf(someSeries(random)))
	}
	f.Fuzz(func(t *testing.T, text string) {
		checkAnything(t, text)
		// Whatever the text is, it may be a name.
		if written := series.Escape(text); written != escaping.Replace(text) {
			t.Errorf("Escape(%q): %q", text, written)
		}
		checkSeries(t, api.Series{Name: text})
	})
}
