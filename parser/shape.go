package parser

import (
	"slices"
	"strings"

	"gangsaw/api"
	"gangsaw/lexer"
)

// The strings of patterns that stand for more than one spelling.
const (
	formWord   = "WORD"
	formName   = "NAME"
	formNumber = "NUMBER"
	formText   = "TEXT"
	formAny    = "ANY"
)

// marks are the marks that repeat a form, each one at the index that is the least number of tokens for which it stands.
const marks = "*+"

// Shape returns the fault of a line that does not have the form of a pattern of words and kinds of tokens.
func Shape(l api.Line, pattern []string) api.Fault {
	kinds := map[string]int{
		formWord:   api.TokWord,
		formName:   api.TokWord,
		formNumber: api.TokNumber,
		formText:   api.TokText,
	}
	forms := unfold(pattern, len(l.Tokens))
	for i, t := range l.Tokens {
		if i == len(forms) {
			return Bad(api.ErrSyntax, l, i)
		}
		if e := checkForm(t, forms[i], kinds); e != api.OK {
			return Bad(e, l, i)
		}
	}
	if len(forms) > len(l.Tokens) {
		return Bad(api.ErrSyntax, l, len(l.Tokens))
	}
	return api.Fault{}
}

// unfold returns the forms of a pattern for a line with so many tokens, one for each token that the line must have.
func unfold(pattern []string, tokens int) []string {
	last := len(pattern) - 1
	if last < 0 {
		return nil
	}
	for least, mark := range marks {
		form, marked := strings.CutSuffix(pattern[last], string(mark))
		if !marked || form == "" {
			continue
		}
		return slices.Concat(pattern[:last], slices.Repeat([]string{form}, max(least, tokens-last)))
	}
	return pattern
}

// checkForm returns the error of a token that must have a form. The kinds of tokens are those of the forms that stand for any token of a kind.
func checkForm(t api.Token, form string, kinds map[string]int) api.Errno {
	kind, known := kinds[form]
	switch {
	case form == formAny:
		return api.OK
	case known && t.Kind != kind, !known && !isSpelled(t, form):
		return api.ErrSyntax
	case form == formName && !lexer.Name(t.Text):
		return api.ErrName
	}
	return api.OK
}

// isSpelled reports whether a token is a word or sign with this text.
func isSpelled(t api.Token, s string) bool {
	return (t.Kind == api.TokWord || t.Kind == api.TokSign) && t.Text == s
}
