package lex_test

import (
	"math/rand"
	"slices"
	"strconv"
	"strings"
	"testing"
	"unsafe"

	"grist/api"
	"grist/lex"
)

func word(at int, s string) lex.Token   { return lex.Token{Kind: 1, Text: s, At: at} }
func name(at int, s string) lex.Token   { return lex.Token{Kind: 2, Text: s, At: at} }
func number(at int, s string) lex.Token { return lex.Token{Kind: 3, Text: s, At: at} }
func text(at int, s string) lex.Token   { return lex.Token{Kind: 4, Text: s, At: at} }
func sign(at int, s string) lex.Token   { return lex.Token{Kind: 5, Text: s, At: at} }

// TestTokens: P18.1, written out.
func TestTokens(t *testing.T) {
	checkTokens(t, "")
	checkTokens(t, `SELECT "a b" FROM x`, word(0, "SELECT"), name(7, "a b"), word(13, "FROM"), word(18, "x"))
	checkTokens(t, `-5<=3.5`, number(0, "-5"), sign(2, "<="), number(4, "3.5"))
	checkTokens(t, `SELECT MEAN("v") FROM cpu WHERE host != 'a' AND TIME >= -5 GROUP BY TIME(10), host FILL 1.50`,
		word(0, "SELECT"), word(7, "MEAN"), sign(11, "("), name(12, "v"), sign(15, ")"), word(17, "FROM"), word(22, "cpu"), word(26, "WHERE"), word(32, "host"), sign(37, "!="), text(40, "a"), word(44, "AND"), word(48, "TIME"), sign(53, ">="), number(56, "-5"),
		word(59, "GROUP"), word(65, "BY"), word(68, "TIME"), sign(72, "("), number(73, "10"), sign(75, ")"), sign(76, ","), word(78, "host"), word(83, "FILL"), number(88, "1.50"))
	checkTokens(t, `a"b"c'd'5e`, word(0, "a"), name(1, "b"), word(4, "c"), text(5, "d"), number(8, "5"), word(9, "e"))
	checkFault(t, `'a`, 0)
	checkFault(t, `a;`, 1)
}

// TestBlanks: P18.1, blanks, tabs and line feeds between tokens, and nothing else.
func TestBlanks(t *testing.T) {
	checkTokens(t, " ")
	checkTokens(t, "\t\n \n\t")
	checkTokens(t, " \t\na\n\n\tb \t", word(3, "a"), word(7, "b"))
	checkTokens(t, "a\tb\nc d", word(0, "a"), word(2, "b"), word(4, "c"), word(6, "d"))
	checkTokens(t, "< =", sign(0, "<"), sign(2, "="))
	checkTokens(t, "1 -5", number(0, "1"), number(2, "-5"))
	for _, c := range []string{"\r", "\v", "\f", "\x00", "\x7f", "\x85", "\xa0", "\u00a0", "\u2003", "\ufeff"} {
		checkFault(t, c, 0)
		checkFault(t, "a"+c+"b", 1)
		checkFault(t, "a "+c, 2)
	}
	checkTokens(t, strings.Repeat(" ", 65535)+"a", word(65535, "a"))
	checkFault(t, strings.Repeat("\n", 65535)+";", 65535)
}

// TestWords: P18.1, a letter or _, and letters, digits, _ behind it.
func TestWords(t *testing.T) {
	for _, s := range []string{"a", "z", "A", "Z", "_", "__", "_9", "a9", "x_1", "SELECT", "zZ09_", "e5", "abcdefghijklmnopqrstuvwxyz_ABCDEFGHIJKLMNOPQRSTUVWXYZ0123456789"} {
		checkTokens(t, s, word(0, s))
		checkTokens(t, " "+s+"(", word(1, s), sign(1+len(s), "("))
		checkTokens(t, s+"-1", word(0, s), number(len(s), "-1"))
		checkTokens(t, s+" "+s, word(0, s), word(len(s)+1, s))
		for _, behind := range []string{"-", ".", "@", "[", "`", "{", "/", ":", "\\", "#", "$", "!", "é", "\xff", "'", `"`} {
			checkFault(t, s+behind, len(s))
		}
	}
	checkTokens(t, "9a", number(0, "9"), word(1, "a"))
	checkTokens(t, long("w", 65536), word(0, long("w", 65536)))
}

// TestNumbers: P18.1, with and without a - and a point.
func TestNumbers(t *testing.T) {
	for _, s := range []string{"0", "9", "00", "007", "-0", "-5", "10", "3.5", "-3.5", "0.0", "1.50", "-00.00", "1234567890.0987654321", "9223372036854775808"} {
		checkTokens(t, s, number(0, s))
		checkTokens(t, "x "+s+")", word(0, "x"), number(2, s), sign(2+len(s), ")"))
		checkTokens(t, s+"-1", number(0, s), number(len(s), "-1"))
		checkTokens(t, s+" "+s, number(0, s), number(len(s)+1, s))
		checkTokens(t, s+"e5", number(0, s), word(len(s), "e5"))
		for _, behind := range []string{".", "..", ". 5", ".x", ".-5", ".e5", "-", "--5", "- 5", "-.5", "-x", "+1", ";", "\x00"} {
			checkFault(t, s+behind, len(s))
		}
	}
	checkTokens(t, "1-2-3", number(0, "1"), number(1, "-2"), number(3, "-3"))
	checkTokens(t, "a-3", word(0, "a"), number(1, "-3"))
	checkTokens(t, "(-3)", sign(0, "("), number(1, "-3"), sign(3, ")"))
	for s, at := range map[string]int{"-": 0, "- 5": 0, "--5": 0, "-x": 0, "-.5": 0, "-\n5": 0, ".": 0, ".5": 0, "..5": 0, "+5": 0, "5.": 1, "1.2.3": 3, "1.2.": 3, "1..2": 1, "-5.": 2, "-5.-5": 2, "1. 2": 1, "1 .5": 2, "٣": 0, "1٣": 1} {
		checkFault(t, s, at)
	}
}

// TestLongNumbers: P18.1, up to 40 bytes, with the - and the point.
func TestLongNumbers(t *testing.T) {
	for n := 1; n < 100; n++ {
		s := long("1", n)
		for _, s := range []string{s, "-" + s, s + ".5", "-" + s + ".5", "5." + s, "-5." + s, s + "." + s, long("0", n), "0." + long("0", n)} {
			if len(s) <= 40 {
				checkTokens(t, s, number(0, s))
				checkTokens(t, "x "+s+"x", word(0, "x"), number(2, s), word(2+len(s), "x"))
				checkFault(t, s+";", len(s))
				checkFault(t, s+"-", len(s))
			} else {
				checkFault(t, s, 0)
				checkFault(t, "x "+s+"x", 2)
				checkFault(t, s+";", 0)
				checkFault(t, s+"-", 0)
			}
			checkAnything(t, s+".")
			checkAnything(t, s+" "+s)
			checkAnything(t, s+"-"+s)
		}
	}
	forty := long("1", 40)
	checkFault(t, forty+".", 40)
	checkFault(t, forty+".5", 0)
	checkFault(t, forty+"1.", 0)
	checkFault(t, "-"+forty, 0)
	checkTokens(t, forty+" "+forty+"-"+forty[1:], number(0, forty), number(41, forty), number(81, "-"+forty[1:]))
	checkFault(t, forty+"-"+forty, 40)
	checkFault(t, "a "+long("9", 65534), 2)
}

// TestQuoted: P18.1, names and strings: what their bytes mean, and where they end.
func TestQuoted(t *testing.T) {
	checkTokens(t, `"\"" '\''`, name(0, `"`), text(5, `'`))
	checkTokens(t, `"'" '"'`, name(0, `'`), text(4, `"`))
	checkTokens(t, `"\\\"\\" '\\\'\\'`, name(0, `\"\`), text(9, `\'\`))
	checkTokens(t, `"a""b"'c''d'"e"`, name(0, "a"), name(3, "b"), text(6, "c"), text(9, "d"), name(12, "e"))
	for _, x := range []struct {
		quote string
		of    func(at int, s string) lex.Token
		other string
	}{{`"`, name, `'`}, {`'`, text, `"`}} {
		in := func(s string) string { return x.quote + s + x.quote }
		for inside, want := range map[string]string{
			"": "", " ": " ", "a": "a", "a b": "a b", "\n": "\n", "\t\r\x00\x7f\xff": "\t\r\x00\x7f\xff", "é": "é", ";": ";", "SELECT * FROM x": "SELECT * FROM x",
			`\` + x.quote: x.quote, `\\`: `\`, `\\\\`: `\\`, `\\n`: `\n`, `\\\` + x.quote: `\` + x.quote, x.other: x.other, `a\` + x.quote + `b\\c`: `a` + x.quote + `b\c`,
		} {
			checkTokens(t, in(inside), x.of(0, want))
			checkTokens(t, "a"+in(inside)+"b", word(0, "a"), x.of(1, want), word(len(inside)+3, "b"))
			checkFault(t, in(inside)+";", len(inside)+2)
			checkFault(t, "a "+x.quote+inside, 2)
		}
		// A backslash ahead of other bytes stands there for nothing, so that what began with the quote has no end.
		for c := range 256 {
			b := string([]byte{byte(c)})
			if b == x.quote || b == `\` {
				continue
			}
			checkTokens(t, in(b), x.of(0, b))
			checkFault(t, in(`\`+b), 0)
			checkFault(t, "a "+in("b")+" "+in(`c\`+b+`d`), 6)
		}
		for s, at := range map[string]int{x.quote: 0, x.quote + x.quote + x.quote: 2, in(`\`): 0, x.quote + `\`: 0, x.quote + `\\\` + x.quote: 0, in("a") + x.quote: 3, " " + x.quote + "a" + x.other: 1, in(`\` + x.other): 0, in("a") + `\` + x.quote: 3, `\` + in("a"): 0, x.quote + ";": 0} {
			checkFault(t, s, at)
		}
		for _, n := range []int{64, 65, 65533, 65534} {
			checkTokens(t, in(long("x", n)), x.of(0, long("x", n)))
		}
		checkTokens(t, in(strings.Repeat(`\`+x.quote, 32767)), x.of(0, strings.Repeat(x.quote, 32767)))
		checkTokens(t, strings.Repeat(in(""), 32768), slices.Collect(func(yield func(lex.Token) bool) {
			for i := 0; i < 65536 && yield(x.of(i, "")); i += 2 {
			}
		})...)
		checkFault(t, x.quote+long("x", 65535), 0)
	}
}

// TestSigns: P18.1, the longer one, where two fit.
func TestSigns(t *testing.T) {
	checkTokens(t, "(),*=!=<<=>>=", sign(0, "("), sign(1, ")"), sign(2, ","), sign(3, "*"), sign(4, "="), sign(5, "!="), sign(7, "<"), sign(8, "<="), sign(10, ">"), sign(11, ">="))
	checkTokens(t, "==", sign(0, "="), sign(1, "="))
	checkTokens(t, "=<", sign(0, "="), sign(1, "<"))
	checkTokens(t, "=>=", sign(0, "="), sign(1, ">="))
	checkTokens(t, "<>", sign(0, "<"), sign(1, ">"))
	checkTokens(t, "><", sign(0, ">"), sign(1, "<"))
	checkTokens(t, "<==", sign(0, "<="), sign(2, "="))
	checkTokens(t, ">>=<<=", sign(0, ">"), sign(1, ">="), sign(3, "<"), sign(4, "<="))
	checkTokens(t, "!==", sign(0, "!="), sign(2, "="))
	checkTokens(t, "=!=", sign(0, "="), sign(1, "!="))
	checkTokens(t, "**", sign(0, "*"), sign(1, "*"))
	checkTokens(t, "((", sign(0, "("), sign(1, "("))
	for s, at := range map[string]int{"!": 0, "! =": 0, "!!=": 0, "!a": 0, "!<": 0, "=!": 1, "<!": 1, "a!": 1, "!=!": 2, "!=;": 2} {
		checkFault(t, s, at)
	}
	for _, s := range strings.Fields("( ) , * = != < <= > >=") {
		checkTokens(t, s, sign(0, s))
		checkTokens(t, "a"+s+"b", word(0, "a"), sign(1, s), word(1+len(s), "b"))
		checkTokens(t, "1"+s+"-2", number(0, "1"), sign(1, s), number(1+len(s), "-2"))
		checkTokens(t, `"a"`+s+"'b'", name(0, "a"), sign(3, s), text(3+len(s), "b"))
		checkTokens(t, s+" "+s, sign(0, s), sign(len(s)+1, s))
	}
	checkTokens(t, strings.Repeat("*", 65536), slices.Collect(func(yield func(lex.Token) bool) {
		for i := 0; i < 65536 && yield(sign(i, "*")); i++ {
		}
	})...)
}

// TestEachByte: P18.1, each byte and each two at the places where they may mean something.
func TestEachByte(t *testing.T) {
	found := 0
	for i := range 256 {
		b := string([]byte{byte(i)})
		if checkAnything(t, b) {
			found++
		}
		for _, around := range [][2]string{{"a", ""}, {"a", "b"}, {"", "a"}, {"1", ""}, {"1", "2"}, {"1.", "2"}, {"1.2", "3"}, {"-", "1"}, {"", "1"}, {"<", "="}, {"", "="}, {`"`, `"`}, {`'`, `'`}, {`"\`, `"`}, {`'\`, `'`}, {`"a"`, `'b'`}, {"a ", " b"}, {"é", ""}} {
			checkAnything(t, around[0]+b+around[1])
		}
		for j := range 256 {
			checkAnything(t, b+string([]byte{byte(j)}))
		}
	}
	// 26 letters twice, _, ten digits, seven signs, and three bytes that may stand between.
	if found != 26+26+1+10+7+3 {
		t.Error(found, "bytes alone are tokens, or none stand there")
	}
}

// TestTooLong: P18.1, up to 65536 bytes, whatever they are.
func TestTooLong(t *testing.T) {
	for _, piece := range []string{"a", " ", "1", "*", ";", `"`, "'", `\`, "-", ".", "!", "a ", "1 ", "''", `"a"`, "<=", "\x00", "é", `\"`} {
		for _, n := range []int{65534, 65535, 65536} {
			if _, _, e := lex.Tokens(long(piece, n)); e != api.OK && e != api.ErrForm {
				t.Errorf("%d bytes of %q: %v", n, piece, e)
			}
			checkAnything(t, long(piece, n))
		}
		for _, n := range []int{65537, 65538, 1 << 20, 1 << 24} {
			if l, at, e := lex.Tokens(long(piece, n)); len(l) > 0 || at != 0 || e != api.ErrLong {
				t.Errorf("%d bytes of %q: %d tokens, %d, %v", n, piece, len(l), at, e)
			}
		}
	}
	checkFault(t, long("a ", 65535)+";", 65535)
}

// TestAllShortStatements: P18.1, each text of some signs, alone and behind others.
func TestAllShortStatements(t *testing.T) {
	shortStatements(t, "", "", "a1-. =", 6)
	shortStatements(t, "", "", "a\"'\\ ", 7)
	shortStatements(t, "", "", "=!<>(,*)a", 5)
	shortStatements(t, `"`, `"`, "a\"\\'\n", 6)
	shortStatements(t, "'", "'", "a'\\\";", 6)
	shortStatements(t, "a 12345678901234567890123456789012345678", "", "1.- x", 5)
}

func shortStatements(t *testing.T, ahead, behind, alphabet string, longest int) {
	t.Helper()
	found := 0
	texts := []string{""}
	for range longest {
		var longer []string
		for _, s := range texts {
			for _, c := range alphabet {
				longer = append(longer, s+string(c))
			}
		}
		for _, s := range longer {
			if checkAnything(t, ahead+s+behind) {
				found++
			}
		}
		texts = longer
	}
	if found < 30 {
		t.Errorf("%d texts behind %q were tokens", found, ahead)
	}
}

// TestChangedStatements: P18.1, statements with bytes that are changed, left out, or more.
func TestChangedStatements(t *testing.T) {
	for _, s := range []string{`SELECT MAX(v), "a\"b" FROM x_1 WHERE t <= -3.50 AND s != 'it\'s \\'`, "12345678901234567890.1234567890123456789<>\"\\\\\"\n''"} {
		for i := range len(s) + 1 {
			checkAnything(t, s[:i])
			checkAnything(t, s[i:])
			for c := range 256 {
				b := string([]byte{byte(c)})
				checkAnything(t, s[:i]+b+s[i:])
				if i < len(s) {
					checkAnything(t, s[:i]+b+s[i+1:])
				}
			}
			for j := range i {
				checkAnything(t, s[:j]+s[i:])
				checkAnything(t, s[:i]+s[j:])
			}
		}
	}
}

// TestSomeStatements: P18.1, tokens with blanks between them, and the same with a byte more or fewer.
func TestSomeStatements(t *testing.T) {
	random := rand.New(rand.NewSource(1))
	broken := 0
	for range 20000 {
		s, want := someStatement(random)
		checkTokens(t, s, want...)
		i := random.Intn(len(s) + 1)
		if !checkAnything(t, s[:i]+pick(random, "\"'\\;-.!=a1 \x00", 1)+s[i:]) {
			broken++
		}
		if i < len(s) && !checkAnything(t, s[:i]+s[i+1:]) {
			broken++
		}
	}
	if broken < 5000 || broken > 35000 {
		t.Error("too few of the statements were broken, or whole:", broken)
	}
}

// TestAnswersStay: R2, R3, each answer is its own, spare room too, and shares no memory with the statement.
func TestAnswersStay(t *testing.T) {
	s := strings.Clone(`SELECT "a\"b", c1 'it' -3.5 >=`)
	want := []lex.Token{word(0, "SELECT"), name(7, `a"b`), sign(13, ","), word(15, "c1"), text(18, "it"), number(23, "-3.5"), sign(28, ">=")}
	first, _, _ := lex.Tokens(s)
	second, _, _ := lex.Tokens(s)
	clear(first[:cap(first)])
	if !slices.Equal(second, want) {
		t.Error("the answer is another one now:", brief(second))
	}
	_ = append(second, lex.Token{Kind: 9})
	if third, _, _ := lex.Tokens(s); !slices.Equal(third, want) || !slices.Equal(third, second) {
		t.Error("another answer:", brief(third))
	}
	from := uintptr(unsafe.Pointer(unsafe.StringData(s)))
	for _, x := range second {
		if at := uintptr(unsafe.Pointer(unsafe.StringData(x.Text))); from <= at && at < from+uintptr(len(s)) {
			t.Error("memory of the statement:", x)
		}
	}
	// What one call has read has no part in the next one.
	for range 3 {
		checkFault(t, `a "b`, 2)
		checkFault(t, "a 5.", 3)
		checkTokens(t, "c", word(0, "c"))
	}
}

// TestAtOnce: R2, calls at one time.
func TestAtOnce(t *testing.T) {
	for i := range 8 {
		t.Run(strconv.Itoa(i), func(t *testing.T) {
			t.Parallel()
			random := rand.New(rand.NewSource(int64(i)))
			for range 300 {
				s, want := someStatement(random)
				checkTokens(t, s, want...)
			}
		})
	}
}

func FuzzTokens(f *testing.F) {
	random := rand.New(rand.NewSource(2))
	for range 20 {
		s, _ := someStatement(random)
		f.Add(s, byte('"'))
	}
	f.Fuzz(func(t *testing.T, s string, quote byte) {
		checkAnything(t, s)
		checkQuote(t, s, quote)
		checkQuote(t, s, '"')
		checkQuote(t, s, '\'')
	})
}
