package lex

const (
	end        = -1   // stands behind the last byte of a statement
	escape     = '\\' // takes the meaning of the quote or escape behind it
	mostNumber = 40   // bytes of a number
)

// The kinds of tokens.
const (
	wordKind = 1 + iota
	nameKind
	numberKind
	stringKind
	signKind
)

// reader goes through a statement from its left, and holds what it has read of it so far.
type reader struct {
	statement string
	at        int    // the place of the byte that was read last: -1 at the beginning
	c         int    // that byte, or end
	from      int    // the place where the piece begins that is under way
	meant     []byte // what that piece's bytes mean: a token's Text shares no memory with the statement
	tokens    []Token
}

// look answers the byte at a place, or end.
func (r *reader) look(at int) int {
	if at >= len(r.statement) {
		return end
	}
	return int(r.statement[at])
}

// next reads one more byte, or end.
func (r *reader) next() {
	r.at++
	r.c = r.look(r.at)
}

// keep takes the byte that was read last into the token, and reads one more.
func (r *reader) keep() {
	r.meant = append(r.meant, byte(r.c))
	r.next()
}

// add lays the token down that is whole now.
func (r *reader) add(kind int) {
	r.tokens = append(r.tokens, Token{Kind: kind, Text: string(r.meant), At: r.from})
	r.meant = r.meant[:0]
}

// read reads the whole statement; false, if the piece that begins at from is no token.
func (r *reader) read() bool {
	r.next()

between:
	r.from = r.at
	switch {
	case r.c == ' ', r.c == '\t', r.c == '\n':
		r.next()
		goto between
	case isLetter(r.c):
		goto word
	case isDigit(r.c), r.c == '-':
		goto number
	case r.c == '"', r.c == '\'':
		goto quoted
	case r.c == end:
		return true
	}
	goto sign

word:
	r.keep()
	if isLetter(r.c) || isDigit(r.c) {
		goto word
	}
	r.add(wordKind)
	goto between

number:
	if r.readNumber() {
		goto between
	}
	return false

quoted:
	if r.readQuoted() {
		goto between
	}
	return false

sign:
	if r.readSign() {
		goto between
	}
	return false
}

// readNumber reads a number, of which a digit or a - was read last.
func (r *reader) readNumber() bool {
	if r.c == '-' {
		r.keep()
	}
	if !isDigit(r.c) {
		return false
	}

digits:
	r.keep()
	switch {
	case isDigit(r.c):
		goto digits
	case r.c == '.' && isDigit(r.look(r.at+1)):
		goto fraction
	}
	goto last

fraction:
	r.keep()
	if isDigit(r.c) {
		goto fraction
	}

last:
	if len(r.meant) > mostNumber {
		return false
	}
	r.add(numberKind)
	return true
}

// readQuoted reads a name or a string, of which the quote was read last.
func (r *reader) readQuoted() bool {
	quote, kind := r.c, nameKind
	if quote == '\'' {
		kind = stringKind
	}
	r.next()

inside:
	switch r.c {
	case quote:
		r.next()
		r.add(kind)
		return true
	case escape:
		goto escaped
	case end:
		return false
	}
	r.keep()
	goto inside

escaped:
	r.next()
	if r.c != quote && r.c != escape {
		return false
	}
	r.keep()
	goto inside
}

// readSign reads the longest sign that begins with the byte that was read last.
func (r *reader) readSign() bool {
	switch r.c {
	case '(', ')', ',', '*', '=':
		goto last
	case '<', '>':
		r.keep()
		if r.c == '=' {
			goto last
		}
		goto whole
	case '!':
		r.keep()
		if r.c == '=' {
			goto last
		}
	}
	return false

last:
	r.keep()

whole:
	r.add(signKind)
	return true
}

// isLetter counts _ among the letters, as words do.
func isLetter(c int) bool {
	return 'a' <= c && c <= 'z' || 'A' <= c && c <= 'Z' || c == '_'
}

func isDigit(c int) bool {
	return '0' <= c && c <= '9'
}
