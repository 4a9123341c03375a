package lex_test

import (
	"math/rand"
	"strings"
	"testing"
	"unsafe"

	"grist/api"
	"grist/lex"
)

// TestQuote: P18.2, written out.
func TestQuote(t *testing.T) {
	for _, x := range []struct {
		s     string
		quote byte
		want  string
	}{
		{"", '"', `""`},
		{"", '\'', `''`},
		{"a b", '"', `"a b"`},
		{`a"b`, '"', `"a\"b"`},
		{`a'b`, '"', `"a'b"`},
		{`a"b`, '\'', `'a"b'`},
		{`a'b`, '\'', `'a\'b'`},
		{`\`, '"', `"\\"`},
		{`\"`, '"', `"\\\""`},
		{`\'"`, '\'', `'\\\'"'`},
		{`""`, '"', `"\"\""`},
		{"\n\t\x00\xff", '"', "\"\n\t\x00\xff\""},
		{"é", 0xc3, "\xc3\\\xc3\xa9\xc3"},
		{"é", 0xa9, "\xa9\xc3\\\xa9\xa9"},
		{"a\x00", 0, "\x00a\\\x00\x00"},
		{"aba", 'a', `a\ab\aa`},
		{`a\b`, '\\', `\a\\b\`},
		{"", '\\', `\\`},
		{"a b", ' ', ` a\ b `},
		{`\\`, 'x', `x\\\\x`},
	} {
		if s := lex.Quote(x.s, x.quote); s != x.want {
			t.Errorf("Quote(%q, %q): %q, not %q", x.s, x.quote, s, x.want)
		}
		checkQuote(t, x.s, x.quote)
	}
}

// TestQuoteOfBytes: P18.2, of any byte as quote, and any byte in the text.
func TestQuoteOfBytes(t *testing.T) {
	for q := range 256 {
		for c := range 256 {
			b := string([]byte{byte(c)})
			for _, s := range []string{b, b + b, "x" + b + `\`, b + "é" + string([]byte{byte(q)})} {
				checkQuote(t, s, byte(q))
			}
		}
	}
}

// TestQuoteThereAndBack: P18.2, what is quoted is one token that means it.
func TestQuoteThereAndBack(t *testing.T) {
	random := rand.New(rand.NewSource(3))
	for range 20000 {
		s := someText(random)
		checkQuote(t, s, '"')
		checkQuote(t, s, '\'')
		checkQuote(t, s, byte(random.Intn(256)))
	}
	for _, c := range []string{"x", `"`, `'`, `\`, "\n"} {
		for _, n := range []int{32766, 32767, 32768, 65533, 65534, 65535, 1 << 20} {
			checkQuote(t, long(c, n), '"')
			checkQuote(t, long(c, n), '\'')
		}
	}
	if l, at, e := lex.Tokens(lex.Quote(long("x", 65535), '"')); len(l) > 0 || at != 0 || e != api.ErrLong {
		t.Error(len(l), at, e)
	}
}

// TestQuotesStay: R2, R3, an answer shares no memory with what was handed in.
func TestQuotesStay(t *testing.T) {
	s := strings.Repeat("ab", 50)
	first, second := lex.Quote(s, '"'), lex.Quote(s, '"')
	if first != second || s != strings.Repeat("ab", 50) {
		t.Error(first, second, s)
	}
	from := uintptr(unsafe.Pointer(unsafe.StringData(s)))
	if at := uintptr(unsafe.Pointer(unsafe.StringData(first))); from <= at && at < from+uintptr(len(s)) {
		t.Error("memory of the text")
	}
}
