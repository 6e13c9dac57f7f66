package lexer_test

import (
	"math/big"
	"math/rand"
	"regexp"
	"strings"
	"testing"

	"gangsaw/api"
	"gangsaw/lexer"
)

// The definitions of the chapter as expressions.
var (
	oneSpelling = regexp.MustCompile(`(?s)^(?:[A-Za-z][A-Za-z0-9_]*|-?[0-9]+|"[^"]*"|[(),=:<>+/])`)
	wordForm    = regexp.MustCompile(`^[A-Za-z][A-Za-z0-9_]{0,39}$`)
	numberForm  = regexp.MustCompile(`^(?:0|-?[1-9][0-9]*)$`)
	labelForm   = regexp.MustCompile(`^[!#-~](?:[ !#-~]{0,38}[!#-~])?$`)
	nameForm    = regexp.MustCompile(`^[a-z][a-z0-9_]{0,23}$`)
)

// defined returns what the definitions say about a line.
func defined(line string) (lexer.Scanned, api.Fault) {
	if len(line) > 1000 {
		return lexer.Scanned{}, api.Fault{Code: api.ErrTooMany, Col: 1001}
	}
	var s lexer.Scanned
	var tokens []api.Token
	rest := strings.TrimLeft(line, " ")
	if blanks := len(line) - len(rest); rest != "" && rest[0] != '#' {
		if blanks%2 == 1 {
			return lexer.Scanned{}, api.Fault{Code: api.ErrSyntax, Col: blanks + 1}
		}
		if blanks > 12 {
			return lexer.Scanned{}, api.Fault{Code: api.ErrTooMany, Col: blanks + 1}
		}
		s.Indent = blanks / 2
	}
	for ; rest != ""; rest = strings.TrimLeft(rest, " ") {
		if rest[0] == '#' {
			s.Comment = rest[1:]
			break
		}
		at := len(line) - len(rest) + 1
		spelling := oneSpelling.FindString(rest)
		rest = rest[len(spelling):]
		token, e := definedToken(spelling, rest)
		if len(tokens) == 64 {
			e = api.ErrTooMany
		}
		if e != api.OK {
			return lexer.Scanned{}, api.Fault{Code: e, Col: at}
		}
		token.At = at
		tokens = append(tokens, token)
	}
	if n := len(tokens); n > 0 && tokens[n-1].Kind == api.TokSign && tokens[n-1].Text == ":" {
		if n == 1 {
			return lexer.Scanned{}, api.Fault{Code: api.ErrSyntax, Col: tokens[0].At}
		}
		s.Heading = true
		tokens = tokens[:n-1]
	}
	s.Tokens = tokens
	return s, api.Fault{}
}

// definedToken returns the token of a spelling, which is empty if there is none, and of what is behind it.
func definedToken(spelling, behind string) (api.Token, api.Errno) {
	switch {
	case spelling == "":
		return api.Token{}, api.ErrSyntax
	case spelling[0] == '"':
		label := strings.Trim(spelling, `"`)
		if !labelForm.MatchString(label) {
			return api.Token{}, api.ErrName
		}
		return text(label, 0), api.OK
	case spelling[0] == '-' || spelling[0] >= '0' && spelling[0] <= '9':
		if !numberForm.MatchString(spelling) || behind != "" && (behind[0] == '_' || wordForm.MatchString(behind[:1])) {
			return api.Token{}, api.ErrSyntax
		}
		n, _ := new(big.Int).SetString(spelling, 10)
		if n.CmpAbs(big.NewInt(1e15)) > 0 {
			return api.Token{}, api.ErrRange
		}
		return num(n.Int64(), 0), api.OK
	case strings.Contains("(),=:<>+/", spelling):
		return sign(spelling, 0), api.OK
	case !wordForm.MatchString(spelling):
		return api.Token{}, api.ErrName
	}
	return word(spelling, 0), api.OK
}

func checkDefined(t *testing.T, line string) lexer.Scanned {
	t.Helper()
	want, fault := defined(line)
	got, f := lexer.Scan(line)
	if f != fault || !same(got, want) {
		t.Fatalf("Scan of %q: %v, %v, want %v, %v", line, got, f, want, fault)
	}
	return got
}

// everyString visits the strings of at most so many of these bytes.
func everyString(bytes string, most int, visit func(s string)) {
	var extend func(s string)
	extend = func(s string) {
		visit(s)
		if len(s) < most {
			for i := range len(bytes) {
				extend(s + bytes[i:i+1])
			}
		}
	}
	extend("")
}

// P9.1: all short lines of some bytes have what the definitions say.
func TestAllShortLines(t *testing.T) {
	good := 0
	everyString(" aZ01-_\"#:(\t", 5, func(s string) {
		if got := checkDefined(t, s); len(got.Tokens) > 0 {
			good++
		}
	})
	if good < 10000 {
		t.Errorf("only %d lines have tokens", good)
	}
}

// P9.1: every byte alone, between tokens, in a text and in a comment.
func TestAllBytes(t *testing.T) {
	for b := range 256 {
		c := string([]byte{byte(b)})
		for _, s := range []string{c, c + c, "a" + c, c + "a", "0" + c, c + "0", "a " + c + " b", "  " + c, `"` + c + `"`, `"a` + c + `b"`, `"` + c + `b"`, `"a` + c + `"`, "#" + c, "a#" + c + "b", ":" + c, c + ":"} {
			checkDefined(t, s)
		}
	}
}

// P9.1: many long lines have what the definitions say, with few and many tokens, right and wrong ones.
func TestManyLongLines(t *testing.T) {
	r := rand.New(rand.NewSource(9))
	usual := []string{"a", "bed", "x_1", "Wall", "0", "7", "-120", "1000000000000000", `"a b"`, `"#"`, "(", ")", ",", "=", ":", "<", ">", "+", "/", " ", " ", "  ", strings.Repeat("a", 40), `"` + strings.Repeat("b", 40) + `"`}
	rare := []string{"#", "# x", "-", "_", "\t", "é", "007", "1000000000000001", "-1000000000000001", "12345678901234567890", `""`, `" "`, `"`, strings.Repeat("a", 41), `"` + strings.Repeat("b", 41) + `"`, strings.Repeat(" ", 400)}
	codes := map[api.Errno]int{}
	for range 60000 {
		parts := []string{strings.Repeat(" ", r.Intn(8)*2+r.Intn(20)/19)}
		for range r.Intn(80) {
			if r.Intn(300) == 0 {
				parts = append(parts, rare[r.Intn(len(rare))])
			} else {
				parts = append(parts, usual[r.Intn(len(usual))], strings.Repeat(" ", r.Intn(3)))
			}
		}
		line := strings.Join(parts, "")
		checkDefined(t, line)
		_, f := defined(line)
		codes[f.Code]++
	}
	for _, code := range []api.Errno{api.OK, api.ErrSyntax, api.ErrTooMany, api.ErrRange, api.ErrName} {
		if codes[code] < 50 {
			t.Errorf("only %d lines have the code %d", codes[code], code)
		}
	}
}
