package lex_test

import (
	"math/rand"
	"regexp"
	"slices"
	"strconv"
	"strings"
	"testing"

	"proofmark/api"
	"proofmark/lex"
)

// What A1 says, told once more by patterns, so that the program is held against another reading of it.
var (
	passedPattern = regexp.MustCompile(`^([ \t\n]|//[^\n]*)`)
	namePattern   = regexp.MustCompile(`^[a-zA-Z_][a-zA-Z0-9_]*`)
	digitsPattern = regexp.MustCompile(`^[0-9]+`)
	numberPattern = regexp.MustCompile(`^(0|[1-9][0-9]{0,4})$`)
	signPattern   = regexp.MustCompile(`^([<=!]=|[(){}<>\[\]:;,=&|^~+\-*?.'])`)
)

// begins is how many bytes are passed over at the start of s, or the token there (its place is 0); neither: an error.
func begins(s string) (int, api.Tok) {
	if p := passedPattern.FindString(s); p != "" {
		return len(p), api.Tok{}
	}
	if p := namePattern.FindString(s); p != "" {
		return 0, api.Tok{Kind: api.Name, Text: p}
	}
	if p := digitsPattern.FindString(s); p != "" {
		if n, err := strconv.Atoi(p); err == nil && n <= 65535 && numberPattern.MatchString(p) {
			return 0, api.Tok{Kind: api.Number, Text: p, N: n}
		}
		return 0, api.Tok{}
	}
	if p := signPattern.FindString(s); p != "" {
		return 0, api.Tok{Kind: api.Sign, Text: p}
	}
	return 0, api.Tok{}
}

func expected(s string) ([]api.Tok, api.Errno, int) {
	if len(s) > 20000 {
		return nil, api.ErrBig, 0
	}
	var l []api.Tok
	for at := 0; at < len(s); {
		passed, tok := begins(s[at:])
		if passed == 0 && tok.Kind == 0 {
			return nil, api.ErrText, at
		}
		if tok.Kind != 0 {
			tok.At = at
			l = append(l, tok)
		}
		at += passed + len(tok.Text)
	}
	return l, api.OK, 0
}

// moved is tokens, so many bytes further.
func moved(l []api.Tok, by int) []api.Tok {
	l = slices.Clone(l)
	for i := range l {
		l[i].At += by
	}
	return l
}

func placeless(l []api.Tok) []api.Tok {
	l = slices.Clone(l)
	for i := range l {
		l[i].At = 0
	}
	return l
}

// P1.1, and the rules P2 and P3: the answer is what A1 says, nothing stands beside an error, and it is the same again.
func checkTold(t *testing.T, s string) {
	t.Helper()
	l, e, at := lex.Lex(s)
	if wl, we, wat := expected(s); !slices.Equal(l, wl) || e != we || at != wat {
		t.Errorf("P1.1: Lex(%q) = %v, %d, %d; want %v, %d, %d", s, l, e, at, wl, we, wat)
	}
	if e != api.OK && len(l) != 0 || e == api.OK && at != 0 {
		t.Errorf("P2: Lex(%q) = %v, %d, %d", s, l, e, at)
	}
	if l2, e2, at2 := lex.Lex(s); !slices.Equal(l, l2) || e != e2 || at != at2 {
		t.Errorf("P3: Lex(%q) tells something else the second time", s)
	}
}

// P1.2: while what Text tells is short enough to be read (A1 says ErrBig of all longer ones).
func checkBack(t *testing.T, s string) {
	t.Helper()
	l, e, _ := lex.Lex(s)
	if e != api.OK {
		return
	}
	kept := slices.Clone(l)
	told := lex.Text(l)
	if !slices.Equal(l, kept) {
		t.Errorf("P3: Text changed the tokens of %q", s)
	}
	if len(told) > api.MaxText {
		return
	}
	back, e, at := lex.Lex(told)
	if e != api.OK || at != 0 || !slices.Equal(placeless(back), placeless(l)) {
		t.Errorf("P1.2: %q is told as %q, which has %v, %d, %d", s, told, back, e, at)
	}
}

// P1.3
func checkPlaces(t *testing.T, s string) {
	t.Helper()
	l, _, _ := lex.Lex(s)
	end := 0
	for i, tok := range l {
		if tok.At < end || !strings.HasPrefix(s[tok.At:], tok.Text) || tok.Text == "" {
			t.Errorf("P1.3: %q: token %d is %v, the one ahead of it ends at %d", s, i, tok, end)
			return
		}
		end = tok.At + len(tok.Text)
		ahead, e, _ := lex.Lex(s[:tok.At])
		if e != api.OK || !slices.Equal(ahead, l[:i]) {
			t.Errorf("P1.3: %q: ahead of token %d stand %v, %d", s, i, ahead, e)
		}
	}
}

// P1.4: of two texts that have tokens, and together are short enough; an error of the second one moves too.
func checkJoined(t *testing.T, a, b string) {
	t.Helper()
	la, ea, _ := lex.Lex(a)
	lb, eb, atb := lex.Lex(b)
	if ea != api.OK || eb == api.ErrBig || len(a)+1+len(b) > api.MaxText {
		return
	}
	by := len(a) + 1
	got, e, at := lex.Lex(a + "\n" + b)
	if eb != api.OK {
		if e != eb || at != by+atb {
			t.Errorf("P1.4: %q and %q: %d at %d", a, b, e, at)
		}
		return
	}
	if e != api.OK || at != 0 || !slices.Equal(got, append(slices.Clone(la), moved(lb, by)...)) {
		t.Errorf("P1.4: %q and %q: %v, %d, %d", a, b, got, e, at)
	}
}

// P1.5
func checkError(t *testing.T, s string) {
	t.Helper()
	_, e, at := lex.Lex(s)
	if e == api.OK {
		return
	}
	if at < 0 || at > len(s) {
		t.Errorf("P1.5: %q: the place %d is none", s, at)
		return
	}
	if l, e, _ := lex.Lex(s[:at]); e != api.OK {
		t.Errorf("P1.5: %q: ahead of the place %d stand %v, %d", s, at, l, e)
	}
}

func checkPromises(t *testing.T, s string) {
	t.Helper()
	checkTold(t, s)
	checkBack(t, s)
	checkPlaces(t, s)
	checkError(t, s)
}

// shortTexts has all texts of up to so many of some bytes, the empty one too.
func shortTexts(bytes string, most int) []string {
	all := []string{""}
	last := all
	for range most {
		var next []string
		for _, s := range last {
			for i := range len(bytes) {
				next = append(next, s+bytes[i:i+1])
			}
		}
		all = append(all, next...)
		last = next
	}
	return all
}

// One byte, at least, of each sort that A1 tells apart.
func TestAllShortTexts(t *testing.T) {
	for _, s := range shortTexts("a_019 \n/<=!(@", 4) {
		checkPromises(t, s)
		if t.Failed() {
			return
		}
	}
}

func TestAllPairsOfBytes(t *testing.T) {
	for b := range 256 * 256 {
		checkPromises(t, string([]byte{byte(b >> 8), byte(b)}))
	}
}

func TestAllNumbersNearBound(t *testing.T) {
	for n := range 70000 {
		s := strconv.Itoa(n)
		checkTold(t, s)
		checkTold(t, "0"+s)
	}
}

func TestAllShortPairs(t *testing.T) {
	texts := shortTexts("a0/ \n<=@", 3)
	for _, a := range texts {
		if _, e, _ := lex.Lex(a); e != api.OK {
			continue
		}
		for _, b := range texts {
			checkJoined(t, a, b)
		}
		if t.Failed() {
			return
		}
	}
}

// pieces are what longer texts are made of: the right ones, and a few that are wrong.
var pieces = append(strings.Fields("<= == != ( ) { } < > [ ] : ; , = & | ^ ~ + - * ? . ' a _b9 module 0 7 12 65535"),
	" ", "\t", "\n", "// x @", "//\n", "\n//", "  ")

var wrongPieces = []string{"!", "/", "@", "00", "65536", "\r", "\x00", "\xff", "é"}

func madeText(r *rand.Rand, wrong bool) string {
	var b strings.Builder
	for range r.Intn(40) {
		if wrong && r.Intn(30) == 0 {
			b.WriteString(wrongPieces[r.Intn(len(wrongPieces))])
		} else {
			b.WriteString(pieces[r.Intn(len(pieces))])
		}
	}
	return b.String()
}

func TestMadeTexts(t *testing.T) {
	r := rand.New(rand.NewSource(1))
	for i := range 5000 {
		a, b := madeText(r, i%2 == 0), madeText(r, i%3 == 0)
		checkPromises(t, a)
		checkJoined(t, a, b)
	}
}

// The bound is met by two texts and the line feed between them, and broken by one byte more.
func TestJoinedNearBound(t *testing.T) {
	a, b := strings.Repeat("a ", 5000), strings.Repeat("7;", 4999)+"x"
	checkJoined(t, a, b)
	if l, e, _ := lex.Lex(a + "\n" + b); e != api.OK || len(l) != 5000+2*4999+1 {
		t.Errorf("P1.4: %d tokens, %d", len(l), e)
	}
	wantError(t, a+"\n"+b+"x", api.ErrBig, 0)
}

// What Text tells has just 20000 bytes.
func TestBackNearBound(t *testing.T) {
	s := strings.Repeat("=;", 4999) + "==a"
	l, _, _ := lex.Lex(s)
	told := lex.Text(l)
	if len(told) != 20000 {
		t.Fatalf("the text has %d bytes", len(told))
	}
	checkBack(t, s)
	wantError(t, told+" ", api.ErrBig, 0)
}

func FuzzLex(f *testing.F) {
	for _, s := range []string{"", "a<=12// x", "x 07", "x ! y", "65535 65536", "<==", "//\n/", "\xff"} {
		f.Add(s, "b;")
	}
	f.Fuzz(func(t *testing.T, a, b string) {
		checkPromises(t, a)
		checkJoined(t, a, b)
	})
}
