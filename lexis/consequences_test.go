package lexis_test

import (
	"math/rand"
	"regexp"
	"slices"
	"strings"
	"testing"

	"veilstone/api"
	"veilstone/lexis"
)

var (
	blank   = regexp.MustCompile(`^([ \t\n\r]|#[^\n]*)+`)
	words   = regexp.MustCompile(`^[a-zA-Z_][a-zA-Z0-9_]*(:[a-zA-Z][a-zA-Z0-9_]*)?`)
	numbers = regexp.MustCompile(`^-?[0-9][a-zA-Z0-9_]*`)
	integer = regexp.MustCompile(`^(0|-?[1-9][0-9]{0,17})$`)
	oneSign = regexp.MustCompile(`^(->|[()\[\]{},.<=|?])`)
)

// reference is the chapter's definition of Tokens, with regular expressions.
func reference(src string) (l []api.Token, bad []api.Problem) {
	at, inRun := 0, false
	take := func(r *regexp.Regexp) string { return r.FindString(src[at:]) }
	skip := func(n int) {
		if !inRun && len(bad) < 64 {
			bad = append(bad, api.Problem{At: at, Code: 10})
		}
		at, inRun = at+n, true
	}
	token := func(kind int, text string) {
		l = append(l, api.Token{Kind: kind, Text: text, At: at})
		at, inRun = at+len(text), false
	}
	for at < len(src) {
		if s := take(blank); s != "" {
			at, inRun = at+len(s), false
		} else if s := take(words); s != "" {
			token(1, s)
		} else if s := take(numbers); integer.MatchString(s) {
			token(2, s)
		} else if s != "" {
			skip(len(s))
		} else if s := take(oneSign); s != "" {
			token(3, s)
		} else {
			skip(1)
		}
	}
	return append(l, api.Token{Kind: 4, At: at}), bad
}

// bare returns tokens without their offsets.
func bare(l []api.Token) (out []api.Token) {
	for _, t := range l {
		t.At = 0
		out = append(out, t)
	}
	return out
}

// consequences checks P1.4, and P1.1 against the reference.
func consequences(t *testing.T, src string) {
	t.Helper()
	l, bad, e := lexis.Tokens([]byte(src))
	want, problems := reference(src)
	if e != api.OK || !slices.Equal(l, want) || !slices.Equal(bad, problems) {
		t.Fatalf("Tokens(%q) = %v, %v, %d, want %v, %v", src, l, bad, e, want, problems)
	}
	offsets(t, src, l)
	joined(t, src, l)
	for _, x := range l {
		commented(t, src, x.At, l)
	}
}

// offsets checks that the source consists of the tokens, in order, and of what is no token.
func offsets(t *testing.T, src string, l []api.Token) {
	t.Helper()
	at := 0
	for k, x := range l {
		if x.At < at || k > 0 && x.At <= l[k-1].At || !strings.HasPrefix(src[x.At:], x.Text) {
			t.Fatalf("%q: token %v is not at its place", src, x)
		}
		if gap, _ := reference(src[at:x.At]); len(gap) != 1 {
			t.Fatalf("%q: tokens between %d and %d: %v", src, at, x.At, gap)
		}
		at = x.At + len(x.Text)
	}
	if end := l[len(l)-1]; end.Kind != api.TokEnd || end.Text != "" || end.At != len(src) {
		t.Fatalf("%q: the end is %v", src, end)
	}
}

// joined checks that the tokens survive Join, and Tokens thereafter.
func joined(t *testing.T, src string, l []api.Token) {
	t.Helper()
	b, e := lexis.Join(l)
	if e != api.OK {
		t.Fatalf("%q: Join returns %d", src, e)
	}
	again, bad, e := lexis.Tokens(b)
	if e != api.OK || len(bad) != 0 || !slices.Equal(bare(again), bare(l)) {
		t.Fatalf("%q: Tokens(%q) = %v, %v, %d", src, b, again, bad, e)
	}
}

// commented checks that a comment before the token at an offset changes no token.
func commented(t *testing.T, src string, at int, l []api.Token) {
	t.Helper()
	for _, c := range []string{"#\n", "# a -> 5 %\r#\n"} {
		again, _, e := lexis.Tokens([]byte(src[:at] + c + src[at:]))
		if e != api.OK || !slices.Equal(bare(again), bare(l)) {
			t.Fatalf("%q with a comment at %d: %v, %d", src, at, again, e)
		}
	}
}

// P1.4 and P1.1: all texts of up to 4 bytes over an alphabet with every class of bytes.
func TestConsequencesOfShortTexts(t *testing.T) {
	const alphabet = "aZ_05:->( \n#%\xff"
	var all func(s string)
	all = func(s string) {
		consequences(t, s)
		for k := 0; k < len(alphabet) && len(s) < 4; k++ {
			all(s + alphabet[k:k+1])
		}
	}
	all("")
}

// P1.4 and P1.1: longer texts of bytes and of fragments, chosen by a fixed seed.
func TestConsequencesOfLongTexts(t *testing.T) {
	r := rand.New(rand.NewSource(1))
	fragments := append(strings.Fields(signs+" "+keywords), " ", "\n", "\t", "\r", "# c\n", "#", "A", "p:X", "_", ":", "-", "0", "-0", "-7", "12", "007", "5x", "%", ">", "\xff", "999999999999999999", "1000000000000000000")
	for range 3000 {
		s := ""
		for range r.Intn(30) {
			s += fragments[r.Intn(len(fragments))]
		}
		consequences(t, s)
	}
	for range 3000 {
		b := make([]byte, r.Intn(40))
		for k := range b {
			b[k] = byte(r.Intn(256))
			if r.Intn(2) == 0 {
				b[k] = byte(32 + r.Intn(96))
			}
		}
		consequences(t, string(b))
	}
}

// P1.4: any list that Join accepts comes back.
func TestTokensOfJoin(t *testing.T) {
	r := rand.New(rand.NewSource(2))
	kinds := [][]string{
		api.TokWord: {"a", "A:b", "_", "_9:Z_", "and", "x1"},
		api.TokInt:  {"0", "5", "-5", "10", "999999999999999999", "-999999999999999999"},
		api.TokSign: strings.Fields(signs),
	}
	for range 3000 {
		var l []api.Token
		for range r.Intn(20) {
			kind := 1 + r.Intn(3)
			l = append(l, api.Token{Kind: kind, Text: kinds[kind][r.Intn(len(kinds[kind]))], At: r.Intn(100)})
		}
		l = append(l, api.Token{Kind: api.TokEnd, At: r.Intn(100)})
		joined(t, "", l)
	}
	longest := strings.Repeat("a", api.MaxSource-3)
	joined(t, "", texts(api.TokWord, longest, "a"))
	// The joined text may be longer than the source; then Join does not accept it.
	l, _, _ := lexis.Tokens([]byte(strings.Repeat("(", api.MaxSource)))
	if b, e := lexis.Join(l); e != api.ErrLimit || len(b) != 0 {
		t.Errorf("%d bytes, %d", len(b), e)
	}
}
