// Package lex is layer 1: see shared/doc/01-lex.md.
package lex

import (
	"strings"

	"proofmark/api"
)

// maxNumber is the greatest number that a text may tell.
const maxNumber = 65535

// signs has those of two bytes first, so that the first one that fits is the longest.
var signs = [...]string{
	"<=", "==", "!=",
	"(", ")", "{", "}", "<", ">", "[", "]", ":", ";", ",",
	"=", "&", "|", "^", "~", "+", "-", "*", "?", ".", "'",
}

// Lex is a text's tokens, OK and 0; or none, what is wrong, and where.
func Lex(s string) ([]api.Tok, api.Errno, int) {
	if len(s) > api.MaxText {
		return nil, api.ErrBig, 0
	}
	var toks []api.Tok
	at := 0
scan:
	for at < len(s) {
		switch c := s[at]; {
		case isSpace(c):
			at++
			continue scan
		case strings.HasPrefix(s[at:], "//"):
			at = lineEnd(s, at)
			continue scan
		case isLetter(c):
			end := nameEnd(s, at)
			toks = append(toks, api.Tok{Kind: api.Name, Text: s[at:end], At: at})
			at = end
			continue scan
		case isDigit(c):
			end := digitsEnd(s, at)
			n, ok := number(s[at:end])
			if !ok {
				return nil, api.ErrText, at
			}
			toks = append(toks, api.Tok{Kind: api.Number, Text: s[at:end], N: n, At: at})
			at = end
			continue scan
		}
		for _, sign := range signs {
			if strings.HasPrefix(s[at:], sign) {
				toks = append(toks, api.Tok{Kind: api.Sign, Text: sign, At: at})
				at += len(sign)
				continue scan
			}
		}
		return nil, api.ErrText, at
	}
	return toks, api.OK, 0
}

// Text is tokens as text: their Texts, with one blank between any two.
func Text(l []api.Tok) string {
	var b strings.Builder
	for i, t := range l {
		if i > 0 {
			b.WriteByte(' ')
		}
		b.WriteString(t.Text)
	}
	return b.String()
}

func isSpace(c byte) bool { return c == ' ' || c == '\t' || c == '\n' }

func isLetter(c byte) bool {
	return 'a' <= c && c <= 'z' || 'A' <= c && c <= 'Z' || c == '_'
}

func isDigit(c byte) bool { return '0' <= c && c <= '9' }

// lineEnd stays ahead of the line feed: that is passed over by itself.
func lineEnd(s string, at int) int {
	for at < len(s) && s[at] != '\n' {
		at++
	}
	return at
}

func nameEnd(s string, at int) int {
	for at < len(s) && (isLetter(s[at]) || isDigit(s[at])) {
		at++
	}
	return at
}

func digitsEnd(s string, at int) int {
	for at < len(s) && isDigit(s[at]) {
		at++
	}
	return at
}

// number is what digits tell; false, if a 0 leads others, or it is too great.
func number(digits string) (int, bool) {
	if len(digits) > 1 && digits[0] == '0' {
		return 0, false
	}
	n := 0
	for i := range len(digits) {
		n = 10*n + int(digits[i]-'0')
		// Held here, not behind the loop: many digits would wrap round.
		if n > maxNumber {
			return 0, false
		}
	}
	return n, true
}
