package sqlparse

import (
	"strings"

	"cormorant/api"
)

// The words, rising.
const words = "and as asc begin between by case commit create cross default delete desc distinct drop else end false from group having in index inner insert into is join key left like limit not null offset on or order primary rollback select set table then true unique update values when where"

const mostInt = 1<<63 - 1

// The kinds of tokens.
const (
	tokenEnd = iota
	tokenName
	tokenWord
	tokenNumber
	tokenText
	tokenSign
)

// token is a part of a text: a name, word, text or sign with what it says; a number.
type token struct {
	kind   int
	text   string
	number int64
	at     int
}

// Words are those that no name is, rising.
func Words() []string { return strings.Fields(words) }

func isWord(name string) bool {
	return name != "" && strings.Contains(" "+words+" ", " "+name+" ")
}

func isLetter(c byte) bool { return c >= 'a' && c <= 'z' || c >= 'A' && c <= 'Z' || c == '_' }

func isDigit(c byte) bool { return c >= '0' && c <= '9' }

func isBlank(c byte) bool { return c == ' ' || c == 9 || c == 10 || c == 12 || c == 13 }

// lexer takes tokens off a text.
type lexer struct {
	text string
	at   int
}

// fail reports what cannot stand at a place; whoever asked for statements recovers it.
func fail(code api.Errno, at int) { panic(api.Fault{Code: code, At: at}) }

// tokens are all of a text, the end last.
func tokens(text string) []token {
	x := &lexer{text: text}
	var l []token
	for {
		t := x.next()
		l = append(l, t)
		if t.kind == tokenEnd {
			return l
		}
	}
}

// peek is a byte ahead, 0 behind the end.
func (x *lexer) peek(n int) byte {
	if x.at+n < len(x.text) {
		return x.text[x.at+n]
	}
	return 0
}

// skip passes over blanks and comments.
func (x *lexer) skip() {
blanks:
	for x.at < len(x.text) {
		switch {
		case isBlank(x.peek(0)):
			x.at++
		case x.peek(0) == '-' && x.peek(1) == '-':
			end := strings.IndexByte(x.text[x.at:], 10)
			if end < 0 {
				x.at = len(x.text)
				break blanks
			}
			x.at += end
		default:
			break blanks
		}
	}
}

func (x *lexer) next() token {
	x.skip()
	at := x.at
	if at == len(x.text) {
		return token{kind: tokenEnd, at: at}
	}
	switch c := x.peek(0); {
	case isLetter(c):
		return x.name()
	case isDigit(c):
		return x.number()
	case c == '"':
		name := x.quoted('"')
		checkName(name, at)
		return token{kind: tokenName, text: name, at: at}
	case c == '\'':
		return token{kind: tokenText, text: x.quoted('\''), at: at}
	}
	n := x.sign()
	if n == 0 {
		fail(api.ErrSqlRune, at)
	}
	x.at += n
	sign := x.text[at:x.at]
	if sign == "!=" {
		sign = "<>"
	}
	return token{kind: tokenSign, text: sign, at: at}
}

// sign is how many bytes of a sign stand here.
func (x *lexer) sign() int {
	if x.at+2 <= len(x.text) {
		switch x.text[x.at : x.at+2] {
		case "<=", ">=", "<>", "!=", "||":
			return 2
		}
	}
	if strings.IndexByte("(),.;*+-/%=<>", x.text[x.at]) >= 0 {
		return 1
	}
	return 0
}

func (x *lexer) name() token {
	at := x.at
	for isLetter(x.peek(0)) || isDigit(x.peek(0)) {
		x.at++
	}
	b := []byte(x.text[at:x.at])
	for i, c := range b {
		if c >= 'A' && c <= 'Z' {
			b[i] = c + 'a' - 'A'
		}
	}
	name := string(b)
	if isWord(name) {
		return token{kind: tokenWord, text: name, at: at}
	}
	checkName(name, at)
	return token{kind: tokenName, text: name, at: at}
}

func checkName(name string, at int) {
	if !isName(name) {
		fail(api.ErrSqlQuote, at)
	}
}

func isName(name string) bool {
	return len(name) >= 1 && len(name) <= api.MaxName && strings.IndexByte(name, 0) < 0
}

func (x *lexer) number() token {
	at := x.at
	var n int64
	for isDigit(x.peek(0)) {
		d := int64(x.peek(0) - '0')
		if n > (mostInt-d)/10 {
			fail(api.ErrSqlNumber, at)
		}
		n = n*10 + d
		x.at++
	}
	if isLetter(x.peek(0)) {
		fail(api.ErrSqlNumber, at)
	}
	return token{kind: tokenNumber, number: n, at: at}
}

// quoted is what stands between quotes, of which two stand for one.
func (x *lexer) quoted(quote byte) string {
	at := x.at
	var b []byte
	for x.at++; x.at < len(x.text); x.at++ {
		c := x.text[x.at]
		if c == quote {
			if x.peek(1) != quote {
				x.at++
				return string(b)
			}
			x.at++
		}
		if c == 0 {
			break
		}
		b = append(b, c)
	}
	fail(api.ErrSqlQuote, at)
	return ""
}
