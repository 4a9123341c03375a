package series_test

import (
	"math/rand"
	"regexp"
	"slices"
	"strings"
	"testing"

	"grist/api"
	"grist/series"
)

// signs are all that have a backslash ahead in a name's text.
const signs = ",= #\\"

// of is a series with tags of these keys and values, in turn.
func of(name string, pairs ...string) api.Series {
	s := api.Series{Name: name}
	for i := 0; i < len(pairs); i += 2 {
		s.Tags = append(s.Tags, api.Tag{Key: pairs[i], Value: pairs[i+1]})
	}
	return s
}

func same(a, b api.Series) bool {
	return a.Name == b.Name && slices.Equal(a.Tags, b.Tags)
}

var notOfNames = regexp.MustCompile(`[\x00-\x1f\x7f]`)

// isName is as the document tells it.
func isName(s string) bool {
	return 1 <= len(s) && len(s) <= 64 && !notOfNames.MatchString(s)
}

// formed is the answer of Formed, as the document tells it.
func formed(s api.Series) bool {
	names := []string{s.Name}
	for _, t := range s.Tags {
		names = append(names, t.Key, t.Value)
	}
	for _, one := range names {
		if !isName(one) {
			return false
		}
	}
	for i := 1; i < len(s.Tags); i++ {
		if strings.Compare(s.Tags[i-1].Key, s.Tags[i].Key) != -1 {
			return false
		}
	}
	return len(s.Tags) <= 8
}

var escaping = strings.NewReplacer(`,`, `\,`, `=`, `\=`, ` `, `\ `, `#`, `\#`, `\`, `\\`)

// textOf is the text of a series, formed or not, as the document tells it.
func textOf(s api.Series) string {
	text := escaping.Replace(s.Name)
	for _, t := range s.Tags {
		text += "," + escaping.Replace(t.Key) + "=" + escaping.Replace(t.Value)
	}
	return text
}

const oneName = `((?:[^,= #\\]|\\[,= #\\])*)`

var (
	aText    = regexp.MustCompile(`(?s)^` + oneName + `(?:,` + oneName + `=` + oneName + `)*$`)
	oneTag   = regexp.MustCompile(`(?s)^,` + oneName + `=` + oneName)
	firstOne = regexp.MustCompile(`(?s)^` + oneName)
	unescape = regexp.MustCompile(`(?s)\\(.)`)
)

// told is the series whose text this is; false, if there is none.
func told(text string) (api.Series, bool) {
	if !aText.MatchString(text) {
		return api.Series{}, false
	}
	name := firstOne.FindString(text)
	s := api.Series{Name: unescape.ReplaceAllString(name, "$1")}
	for rest := text[len(name):]; rest != ""; {
		found := oneTag.FindStringSubmatch(rest)
		s.Tags = append(s.Tags, api.Tag{Key: unescape.ReplaceAllString(found[1], "$1"), Value: unescape.ReplaceAllString(found[2], "$1")})
		rest = rest[len(found[0]):]
	}
	return s, formed(s)
}

// checkFormed: s is formed; it has this text, and the text is its alone.
func checkFormed(t *testing.T, s api.Series, want string) {
	t.Helper()
	if !series.Formed(s) {
		t.Errorf("Formed(%.900q): false", s)
	}
	if text, e := series.Text(s); text != want || e != api.OK {
		t.Errorf("Text(%.900q): %.900q, %v, not %.900q", s, text, e, want)
	}
	checkText(t, want, s)
}

// checkUnformed: s isn't formed, so that it has no text.
func checkUnformed(t *testing.T, s api.Series) {
	t.Helper()
	if series.Formed(s) {
		t.Errorf("Formed(%.900q): true", s)
	}
	if text, e := series.Text(s); text != "" || e != api.ErrArg {
		t.Errorf("Text(%.900q): %.900q, %v", s, text, e)
	}
}

// checkText: this is the text of s.
func checkText(t *testing.T, text string, want api.Series) {
	t.Helper()
	if s, e := series.Parse(text); e != api.OK || !same(s, want) {
		t.Errorf("Parse(%.900q): %.900q, %v, not %.900q", text, s, e, want)
	}
}

// checkNone: this is no series' text.
func checkNone(t *testing.T, text string) {
	t.Helper()
	if s, e := series.Parse(text); e != api.ErrForm || s.Name != "" || len(s.Tags) != 0 {
		t.Errorf("Parse(%.900q): %.900q, %v, not ErrForm", text, s, e)
	}
}

// checkSeries holds Formed, Text and Parse of whatever series.
func checkSeries(t *testing.T, s api.Series) {
	t.Helper()
	if formed(s) {
		checkFormed(t, s, textOf(s))
		return
	}
	checkUnformed(t, s)
	checkAnything(t, textOf(s))
}

// checkAnything holds Parse of whatever text.
func checkAnything(t *testing.T, text string) {
	t.Helper()
	s, is := told(text)
	if !is {
		checkNone(t, text)
		return
	}
	checkFormed(t, s, text)
}

// someName is mostly a name, of some signs and bytes.
func someName(random *rand.Rand) string {
	n := 1 + random.Intn(3)
	switch random.Intn(60) {
	case 0:
		n = 0
	case 1:
		n = 60 + random.Intn(8)
	}
	b := make([]byte, n)
	for i := range b {
		switch random.Intn(200) {
		case 0:
			b[i] = byte(random.Intn(256))
		case 1:
			b[i] = []byte{31, 32, 126, 127, 128, 255}[random.Intn(6)]
		default:
			b[i] = ("ab\xc3\xa9" + signs)[random.Intn(4+len(signs))]
		}
	}
	return string(b)
}

// someSeries is one with tags, mostly in their order.
func someSeries(random *rand.Rand) api.Series {
	s := api.Series{Name: someName(random)}
	for range random.Intn(11) {
		s.Tags = append(s.Tags, api.Tag{Key: someName(random), Value: someName(random)})
	}
	if random.Intn(10) > 0 {
		slices.SortFunc(s.Tags, func(a, b api.Tag) int { return strings.Compare(a.Key, b.Key) })
	}
	return s
}
