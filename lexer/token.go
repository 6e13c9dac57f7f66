package lexer

import (
	"strconv"
	"strings"

	"gangsaw/api"
)

// signs are the bytes that are signs.
const signs = "(),=:<>+/"

// Valid reports whether some line has a token.
func Valid(t api.Token) bool {
	s := spelling(t)
	if s == "" {
		return false
	}
	// Only a possible token is read again from its own spelling.
	read, length, e := first(s)
	read.At = t.At
	return e == api.OK && length == len(s) && read == t
}

// Spell returns the spelling of a token.
func Spell(t api.Token) (string, api.Errno) {
	if !Valid(t) {
		return "", api.ErrSyntax
	}
	return strings.Clone(spelling(t)), api.OK
}

// Name reports whether a string is a name.
func Name(s string) bool {
	return s != "" && len(s) <= api.MaxName && isSmall(s[0]) && run(s, isNameByte) == len(s)
}

// Label reports whether a string is a label.
func Label(s string) bool {
	return s != "" && len(s) <= api.MaxLabel && run(s, isLabelByte) == len(s) && s[0] != ' ' && s[len(s)-1] != ' '
}

// spelling returns how a token is spelled, if it is possible.
func spelling(t api.Token) string {
	switch t.Kind {
	case api.TokWord, api.TokSign:
		return t.Text
	case api.TokNumber:
		return strconv.FormatInt(t.N, 10)
	case api.TokText:
		return `"` + t.Text + `"`
	}
	return ""
}

// first returns the token with which a string that is not empty begins, and the length of its spelling.
func first(s string) (api.Token, int, api.Errno) {
	switch c := s[0]; {
	case isLetter(c):
		return word(s)
	case isDigit(c) || c == '-':
		return number(s)
	case c == '"':
		return text(s)
	case strings.IndexByte(signs, c) >= 0:
		return api.Token{Kind: api.TokSign, Text: strings.Clone(s[:1])}, 1, api.OK
	}
	return api.Token{}, 0, api.ErrSyntax
}

// word returns the word with which a string begins.
func word(s string) (api.Token, int, api.Errno) {
	n := run(s, isWordByte)
	if n > api.MaxLabel {
		return api.Token{}, 0, api.ErrName
	}
	return api.Token{Kind: api.TokWord, Text: strings.Clone(s[:n])}, n, api.OK
}

// number returns the number with which a string begins that begins with a digit or a minus.
func number(s string) (api.Token, int, api.Errno) {
	digits := strings.TrimPrefix(s, "-")
	sign := len(s) - len(digits)
	n := run(digits, isDigit)
	if !wellSpelled(digits[:n], sign > 0) || n < len(digits) && isWordByte(digits[n]) {
		return api.Token{}, 0, api.ErrSyntax
	}
	value, err := strconv.ParseInt(s[:sign+n], 10, 64)
	if err != nil || value < -MaxNumber || value > MaxNumber {
		return api.Token{}, 0, api.ErrRange
	}
	return api.Token{Kind: api.TokNumber, N: value}, sign + n, api.OK
}

// wellSpelled reports whether the digits of a number are there, have no superfluous zero in front, and are not those of -0.
func wellSpelled(digits string, negative bool) bool {
	return digits != "" && (digits[0] != '0' || digits == "0" && !negative)
}

// text returns the text with which a string begins that begins with a quotation mark.
func text(s string) (api.Token, int, api.Errno) {
	label, _, closed := strings.Cut(s[1:], `"`)
	if !closed {
		return api.Token{}, 0, api.ErrSyntax
	}
	if !Label(label) {
		return api.Token{}, 0, api.ErrName
	}
	return api.Token{Kind: api.TokText, Text: strings.Clone(label)}, len(label) + len(`""`), api.OK
}

// run returns the number of bytes at the beginning of a string that belong to a class.
func run(s string, in func(byte) bool) int {
	n := 0
	for n < len(s) && in(s[n]) {
		n++
	}
	return n
}

func isSmall(c byte) bool { return c >= 'a' && c <= 'z' }

func isLetter(c byte) bool { return isSmall(c) || c >= 'A' && c <= 'Z' }

func isDigit(c byte) bool { return c >= '0' && c <= '9' }

func isNameByte(c byte) bool { return isSmall(c) || isDigit(c) || c == '_' }

func isWordByte(c byte) bool { return isLetter(c) || isDigit(c) || c == '_' }

func isLabelByte(c byte) bool { return c >= 32 && c <= 126 && c != '"' }
