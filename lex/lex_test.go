package lex_test

import (
	"slices"
	"strings"
	"testing"

	"proofmark/api"
	"proofmark/lex"
)

func name(text string, at int) api.Tok {
	return api.Tok{Kind: api.Name, Text: text, At: at}
}

func num(text string, n, at int) api.Tok {
	return api.Tok{Kind: api.Number, Text: text, N: n, At: at}
}

func sign(text string, at int) api.Tok {
	return api.Tok{Kind: api.Sign, Text: text, At: at}
}

// brief keeps a failure's line short: some texts have 20000 bytes.
func brief(s string) string {
	if len(s) > 40 {
		return s[:40] + ".."
	}
	return s
}

func wantTokens(t *testing.T, s string, want ...api.Tok) {
	t.Helper()
	got, e, at := lex.Lex(s)
	if !slices.Equal(got, want) || e != api.OK || at != 0 {
		t.Errorf("Lex(%q) = %v, %d, %d; want %v, 0, 0", brief(s), got, e, at, want)
	}
}

func wantError(t *testing.T, s string, err api.Errno, place int) {
	t.Helper()
	got, e, at := lex.Lex(s)
	if len(got) != 0 || e != err || at != place {
		t.Errorf("Lex(%q) = %d tokens, %d, %d; want none, %d, %d", brief(s), len(got), e, at, err, place)
	}
}

// P1.1: the chapter's examples.
func TestExamples(t *testing.T) {
	wantTokens(t, "a<=12// x", name("a", 0), sign("<=", 1), num("12", 12, 3))
	wantError(t, "x 07", api.ErrText, 2)
	wantError(t, "x ! y", api.ErrText, 2)
}

// P1.1: an ordinary text, with lines, tabs and remarks.
func TestOrdinaryText(t *testing.T) {
	wantTokens(t, "module top(in a: 4) { // one\n\twire w: 4 = a + 4'9;\n}",
		name("module", 0), name("top", 7), sign("(", 10), name("in", 11), name("a", 14), sign(":", 15),
		num("4", 4, 17), sign(")", 18), sign("{", 20),
		name("wire", 30), name("w", 35), sign(":", 36), num("4", 4, 38), sign("=", 40), name("a", 42),
		sign("+", 44), num("4", 4, 46), sign("'", 47), num("9", 9, 48), sign(";", 49), sign("}", 51))
}

// P1.1: what is passed over.
func TestPassedOver(t *testing.T) {
	wantTokens(t, "")
	wantTokens(t, " ")
	wantTokens(t, "\t")
	wantTokens(t, "\n")
	wantTokens(t, " \t\n\n\t ")
	wantTokens(t, "//")
	wantTokens(t, "///")
	wantTokens(t, "//\n")
	wantTokens(t, "//@!$\x00\xff\r")
	wantTokens(t, "a//@\nb", name("a", 0), name("b", 5))
	wantTokens(t, "a//b//c\n//d\ne//f", name("a", 0), name("e", 12))
	wantTokens(t, "1//2\n3", num("1", 1, 0), num("3", 3, 5))
	wantTokens(t, "//a\r\nb", name("b", 5))
}

// P1.1: remarks end at a line feed, and what is behind it counts again.
func TestErrorBehindRemark(t *testing.T) {
	wantError(t, "//a\n@", api.ErrText, 4)
	wantError(t, "a//b\n/c", api.ErrText, 5)
}

func TestNames(t *testing.T) {
	for _, s := range []string{"a", "z", "A", "Z", "_", "__", "_0", "a1", "Z9_", "aZ09_zA"} {
		wantTokens(t, s, name(s, 0))
	}
	wantTokens(t, "a b", name("a", 0), name("b", 2))
	wantTokens(t, "a.b", name("a", 0), sign(".", 1), name("b", 2))
	wantTokens(t, "a0007", name("a0007", 0))
	wantTokens(t, "a99999", name("a99999", 0))
}

func TestNumbers(t *testing.T) {
	wantTokens(t, "0", num("0", 0, 0))
	wantTokens(t, "9", num("9", 9, 0))
	wantTokens(t, "10", num("10", 10, 0))
	wantTokens(t, "9999", num("9999", 9999, 0))
	wantTokens(t, "65534", num("65534", 65534, 0))
	wantTokens(t, "65535", num("65535", 65535, 0))
	wantTokens(t, "0a", num("0", 0, 0), name("a", 1))
	wantTokens(t, "0 0", num("0", 0, 0), num("0", 0, 2))
	wantTokens(t, "12_3", num("12", 12, 0), name("_3", 2))
	wantTokens(t, "4'15", num("4", 4, 0), sign("'", 1), num("15", 15, 2))
}

func TestWrongNumbers(t *testing.T) {
	for _, s := range []string{
		"00", "01", "09", "007", "0000000", "065535",
		"65536", "65540", "65600", "66000", "70000", "99999", "100000", "655350",
		"2147483648", "4294967296", "4294967297", "9223372036854775808",
		"18446744073709551616", "18446744073709551617", "36893488147419103233",
		strings.Repeat("9", 20000), "1" + strings.Repeat("0", 19999),
	} {
		wantError(t, s, api.ErrText, 0)
	}
	wantError(t, "a 65536", api.ErrText, 2)
	wantError(t, "1+00", api.ErrText, 2)
	wantError(t, "00@", api.ErrText, 0)
}

// allSigns is written out again, so that one that the program lacks is missed.
var allSigns = strings.Fields("<= == != ( ) { } < > [ ] : ; , = & | ^ ~ + - * ? . '")

func TestSigns(t *testing.T) {
	for _, s := range allSigns {
		wantTokens(t, s, sign(s, 0))
		wantTokens(t, " "+s+"x", sign(s, 1), name("x", 1+len(s)))
	}
}

// P1.1: of any two signs that meet the longest one is taken first.
func TestLongestSign(t *testing.T) {
	wantTokens(t, "<==", sign("<=", 0), sign("=", 2))
	wantTokens(t, "===", sign("==", 0), sign("=", 2))
	wantTokens(t, "====", sign("==", 0), sign("==", 2))
	wantTokens(t, "!==", sign("!=", 0), sign("=", 2))
	wantTokens(t, "=<=", sign("=", 0), sign("<=", 1))
	wantTokens(t, "<<=", sign("<", 0), sign("<=", 1))
	wantTokens(t, ">=", sign(">", 0), sign("=", 1))
	wantTokens(t, "=!=", sign("=", 0), sign("!=", 1))
	wantTokens(t, "< =", sign("<", 0), sign("=", 2))
	wantTokens(t, "= =", sign("=", 0), sign("=", 2))
	wantError(t, "! =", api.ErrText, 0)
	wantError(t, "=!", api.ErrText, 1)
}

// P1.1: each byte alone is passed over, a token, or an error.
func TestEachByte(t *testing.T) {
	for b := range 256 {
		s := string([]byte{byte(b)})
		switch {
		case strings.Contains(" \t\n", s):
			wantTokens(t, s)
		case strings.Contains("abcdefghijklmnopqrstuvwxyzABCDEFGHIJKLMNOPQRSTUVWXYZ_", s):
			wantTokens(t, s, name(s, 0))
		case strings.Contains("0123456789", s):
			wantTokens(t, s, num(s, b-'0', 0))
		case slices.Contains(allSigns, s):
			wantTokens(t, s, sign(s, 0))
		default:
			wantError(t, s, api.ErrText, 0)
			wantError(t, "a "+s, api.ErrText, 2)
		}
	}
}

func TestWrongTexts(t *testing.T) {
	wantError(t, "/", api.ErrText, 0)
	wantError(t, "a/b", api.ErrText, 1)
	wantError(t, "/ /", api.ErrText, 0)
	wantError(t, "a/", api.ErrText, 1)
	wantError(t, "!", api.ErrText, 0)
	wantError(t, "a!", api.ErrText, 1)
	wantError(t, "a\r\nb", api.ErrText, 1)
	wantError(t, "a\vb", api.ErrText, 1)
	wantError(t, "\x00", api.ErrText, 0)
	wantError(t, "aé", api.ErrText, 1)
	wantError(t, "\u00a0", api.ErrText, 0)
	wantError(t, "ab@cd#", api.ErrText, 2)
	wantError(t, "a \"b\"", api.ErrText, 2)
}

// P1.1: 20000 bytes are told of, 20001 are too many, whatever they are.
func TestLongTexts(t *testing.T) {
	most := strings.Repeat("a", 20000)
	wantTokens(t, most, name(most, 0))
	wantTokens(t, strings.Repeat(" ", 20000))
	wantTokens(t, "//"+strings.Repeat("@", 19998))
	wantTokens(t, strings.Repeat("\n", 19999)+"x", name("x", 19999))
	wantError(t, strings.Repeat(" ", 19999)+"@", api.ErrText, 19999)

	got, e, at := lex.Lex(strings.Repeat(";", 20000))
	if len(got) != 20000 || e != api.OK || at != 0 || got[19999] != sign(";", 19999) {
		t.Errorf("20000 signs: %d tokens, %d, %d", len(got), e, at)
	}

	for _, s := range []string{"a", " ", ";", "//", "@", "00", "\n"} {
		wantError(t, strings.Repeat(s, 20001)[:20001], api.ErrBig, 0)
	}
	wantError(t, "@"+strings.Repeat(" ", 20000), api.ErrBig, 0)
	wantError(t, strings.Repeat(" ", 1<<20), api.ErrBig, 0)
}

// P1.1: Text hangs on the tokens' Texts alone, whatever they are.
func TestText(t *testing.T) {
	for _, x := range []struct {
		l    []api.Tok
		want string
	}{
		{nil, ""},
		{[]api.Tok{}, ""},
		{[]api.Tok{{}}, ""},
		{[]api.Tok{{}, {}}, " "},
		{[]api.Tok{{}, {}, {}}, "  "},
		{[]api.Tok{name("a", 0)}, "a"},
		{[]api.Tok{name("a", 0), sign("<=", 1), num("12", 12, 3)}, "a <= 12"},
		{[]api.Tok{name("b", 9), name("a", 0)}, "b a"},
		{[]api.Tok{{Text: "x y"}, {}, {Kind: -1, Text: "\n@\xff", N: 7, At: -3}}, "x y  \n@\xff"},
		{[]api.Tok{{Kind: api.Number, Text: "007", N: 1}, {Kind: api.Number, N: 5}}, "007 "},
	} {
		if got := lex.Text(x.l); got != x.want {
			t.Errorf("Text(%v) = %q; want %q", x.l, got, x.want)
		}
	}
}

// P1.1: Text has no bound of its own, and what it tells may be too long to be read back.
func TestTextBeyondMaxText(t *testing.T) {
	l, _, _ := lex.Lex(strings.Repeat(";", 20000))
	s := lex.Text(l)
	if len(s) != 39999 || strings.Trim(s, "; ") != "" || strings.Count(s, "; ;") != 10000 {
		t.Errorf("Text of 20000 signs has %d bytes", len(s))
	}
	wantError(t, s, api.ErrBig, 0)

	l, _, _ = lex.Lex(strings.Repeat("=;", 5000) + "a")
	if s := lex.Text(l); len(s) != 20001 {
		t.Errorf("Text of 10001 tokens has %d bytes", len(s))
	} else {
		wantError(t, s, api.ErrBig, 0)
	}
}
