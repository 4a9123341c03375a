package lex_test

import (
	"fmt"
	"math/rand"
	"regexp"
	"slices"
	"strings"
	"testing"

	"grist/api"
	"grist/lex"
)

func long(s string, n int) string { return strings.Repeat(s, n)[:n] }

// brief is what a failed test tells of tokens: of many the first ones.
func brief(l []lex.Token) string {
	return fmt.Sprintf("%d tokens %.300v", len(l), l[:min(len(l), 20)])
}

// forms are what the tokens look like, by their Kind less 1.
var forms = []*regexp.Regexp{
	regexp.MustCompile(`^[a-zA-Z_][a-zA-Z_0-9]*`),
	regexp.MustCompile(`^"(?:[^"\\]|\\"|\\\\)*"`),
	regexp.MustCompile(`^-?[0-9]+(?:\.[0-9]+)?`),
	regexp.MustCompile(`^'(?:[^'\\]|\\'|\\\\)*'`),
	regexp.MustCompile(`^(?:\(|\)|,|\*|!=|<=|>=|=|<|>)`),
}

var (
	unescapeName   = strings.NewReplacer(`\"`, `"`, `\\`, `\`)
	unescapeString = strings.NewReplacer(`\'`, `'`, `\\`, `\`)
)

// toldToken is the token that s begins with, as the document tells it, and how many bytes it has; false, if there is none.
func toldToken(s string) (lex.Token, int, bool) {
	for i, form := range forms {
		found := form.FindString(s)
		if found == "" {
			continue
		}
		x := lex.Token{Kind: i + 1, Text: found}
		switch x.Kind {
		case 2:
			x.Text = unescapeName.Replace(found[1 : len(found)-1])
		case 3:
			if len(found) > 40 {
				return lex.Token{}, 0, false
			}
		case 4:
			x.Text = unescapeString.Replace(found[1 : len(found)-1])
		}
		return x, len(found), true
	}
	return lex.Token{}, 0, false
}

// told is what Tokens answers, as the document tells it.
func told(s string) ([]lex.Token, int, api.Errno) {
	if len(s) > 65536 {
		return nil, 0, api.ErrLong
	}
	var all []lex.Token
	for rest := strings.TrimLeft(s, " \t\n"); rest != ""; rest = strings.TrimLeft(rest, " \t\n") {
		at := len(s) - len(rest)
		x, n, ok := toldToken(rest)
		if !ok {
			return nil, at, api.ErrForm
		}
		x.At = at
		all = append(all, x)
		rest = rest[n:]
	}
	return all, 0, api.OK
}

// checkAnything holds Tokens of whatever text, and answers whether it is a row of tokens.
func checkAnything(t *testing.T, s string) bool {
	t.Helper()
	want, place, fault := told(s)
	l, at, e := lex.Tokens(s)
	if !slices.Equal(l, want) || at != place || e != fault {
		t.Errorf("Tokens(%.300q): %s, %d, %v, not %s, %d, %v", s, brief(l), at, e, brief(want), place, fault)
	}
	return e == api.OK
}

// checkTokens: these are the tokens of s.
func checkTokens(t *testing.T, s string, want ...lex.Token) {
	t.Helper()
	if l, at, e := lex.Tokens(s); !slices.Equal(l, want) || at != 0 || e != api.OK {
		t.Errorf("Tokens(%.300q): %s, %d, %v, not %s", s, brief(l), at, e, brief(want))
	}
	checkAnything(t, s)
}

// checkFault: at this place of s no token stands.
func checkFault(t *testing.T, s string, want int) {
	t.Helper()
	if l, at, e := lex.Tokens(s); len(l) > 0 || at != want || e != api.ErrForm {
		t.Errorf("Tokens(%.300q): %s, %d, %v, not ErrForm at %d", s, brief(l), at, e, want)
	}
	checkAnything(t, s)
}

// checkQuote holds Quote of whatever text against the document, and that Tokens reads it as it was.
func checkQuote(t *testing.T, s string, quote byte) {
	t.Helper()
	q := string([]byte{quote})
	want := strings.ReplaceAll(s, `\`, `\\`)
	if q != `\` {
		want = strings.ReplaceAll(want, q, `\`+q)
	}
	want = q + want + q
	text := lex.Quote(s, quote)
	if text != want {
		t.Errorf("Quote(%.300q, %q): %.300q, not %.300q", s, quote, text, want)
	}
	kind := map[byte]int{'"': 2, '\'': 4}[quote]
	if kind == 0 || len(text) > 65536 {
		return
	}
	checkTokens(t, text, lex.Token{Kind: kind, Text: s})
}

// someText is of bytes that mean something, and of some others.
func someText(random *rand.Rand) string {
	return pick(random, "ab_9 \t\n\"\"''\\\\(-.=;\xc3\xa9\x00\xff", random.Intn(6))
}

// pick is n of all these bytes.
func pick(random *rand.Rand, all string, n int) string {
	b := make([]byte, n)
	for i := range b {
		b[i] = all[random.Intn(len(all))]
	}
	return string(b)
}

// someToken is a token, and the bytes of it.
func someToken(random *rand.Rand) (lex.Token, string) {
	const letters, digits = "abyzABYZ_", "0123456789"
	x := lex.Token{Kind: 1 + random.Intn(5)}
	switch x.Kind {
	case 1:
		x.Text = pick(random, letters, 1) + pick(random, letters+digits, random.Intn(5))
	case 2:
		x.Text = someText(random)
		return x, lex.Quote(x.Text, '"')
	case 3:
		x.Text = []string{"", "-"}[random.Intn(2)] + pick(random, digits, 1+random.Intn(19))
		if random.Intn(2) == 0 {
			x.Text += "." + pick(random, digits, 1+random.Intn(19))
		}
	case 4:
		x.Text = someText(random)
		return x, lex.Quote(x.Text, '\'')
	case 5:
		signs := strings.Fields("( ) , * = != < <= > >=")
		x.Text = signs[random.Intn(len(signs))]
	}
	return x, x.Text
}

// someStatement is of tokens with blanks between them; what is there of both.
func someStatement(random *rand.Rand) (string, []lex.Token) {
	var s strings.Builder
	var all []lex.Token
	for range random.Intn(20) {
		s.WriteString(pick(random, " \t\n", 1+random.Intn(3)))
		x, text := someToken(random)
		x.At = s.Len()
		all = append(all, x)
		s.WriteString(text)
	}
	s.WriteString(pick(random, " \t\n", random.Intn(2)))
	return s.String(), all
}
