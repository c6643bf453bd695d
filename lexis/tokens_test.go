package lexis_test

import (
	"fmt"
	"slices"
	"strings"
	"testing"

	"veilstone/api"
	"veilstone/lexis"
)

func word(text string, at int) api.Token { return api.Token{Kind: api.TokWord, Text: text, At: at} }
func number(text string, at int) api.Token {
	return api.Token{Kind: api.TokInt, Text: text, At: at}
}
func sign(text string, at int) api.Token { return api.Token{Kind: api.TokSign, Text: text, At: at} }

const signs = "( ) [ ] { } , . < = | ? ->"

// expect checks the tokens of a text (without the end) and the offsets of its problems.
func expect(t *testing.T, src string, l []api.Token, bad []int) {
	t.Helper()
	got, problems, e := lexis.Tokens([]byte(src))
	want := append(slices.Clone(l), api.Token{Kind: api.TokEnd, At: len(src)})
	if e != api.OK || !slices.Equal(got, want) || !slices.Equal(problems, problemsAt(bad)) {
		t.Errorf("Tokens(%.80q) = %v, %v, %d, want %v and problems at %v", src, got, problems, e, want, bad)
	}
}

func problemsAt(offsets []int) (l []api.Problem) {
	for _, at := range offsets {
		l = append(l, api.Problem{At: at, Code: api.ErrToken})
	}
	return l
}

// P1.1: the table of examples of the chapter, and the examples of its text.
func TestTokensExamples(t *testing.T) {
	expect(t, "", nil, nil)
	expect(t, "# x", nil, nil)
	expect(t, "A->{-5}", []api.Token{word("A", 0), sign("->", 1), sign("{", 3), number("-5", 4), sign("}", 6)}, nil)
	expect(t, "-", nil, []int{0})
	expect(t, "1000000000000000000", nil, []int{0})
	expect(t, "_3_x 5x", []api.Token{word("_3_x", 0)}, []int{5})
	expect(t, "a:b:c", []api.Token{word("a:b", 0), word("c", 4)}, []int{3})
	expect(t, "007%$", nil, []int{0})
}

// P1.1: what each of the 256 bytes is on its own.
func TestTokensOfEachByte(t *testing.T) {
	for b := range 256 {
		src := string([]byte{byte(b)})
		switch {
		case b >= 'a' && b <= 'z', b >= 'A' && b <= 'Z', b == '_':
			expect(t, src, []api.Token{word(src, 0)}, nil)
		case b >= '0' && b <= '9':
			expect(t, src, []api.Token{number(src, 0)}, nil)
		case b == 32, b == 9, b == 10, b == 13, b == '#':
			expect(t, src, nil, nil)
		case strings.Contains("()[]{},.<=|?", src):
			expect(t, src, []api.Token{sign(src, 0)}, nil)
		default:
			expect(t, src, nil, []int{0})
		}
	}
}

// P1.1: each of the 256 bytes behind a letter, a digit, the second word's first place and a minus.
func TestTokensContinuedByEachByte(t *testing.T) {
	for b := range 256 {
		c := string([]byte{byte(b)})
		letter := b >= 'a' && b <= 'z' || b >= 'A' && b <= 'Z'
		digit := b >= '0' && b <= '9'
		if letter || digit || b == '_' {
			expect(t, "x"+c, []api.Token{word("x"+c, 0)}, nil)
		} else if l, _, _ := lexis.Tokens([]byte("x" + c)); l[0] != word("x", 0) {
			t.Errorf("byte %d continues a word: %v", b, l)
		}
		if letter || b == '_' {
			expect(t, "1"+c, nil, []int{0})
		} else if digit {
			expect(t, "1"+c, []api.Token{number("1"+c, 0)}, nil)
		} else if l, _, _ := lexis.Tokens([]byte("1" + c)); l[0] != number("1", 0) {
			t.Errorf("byte %d continues an integer: %v", b, l)
		}
		if letter {
			expect(t, "x:"+c, []api.Token{word("x:"+c, 0)}, nil)
		} else if l, bad, _ := lexis.Tokens([]byte("x:" + c)); l[0] != word("x", 0) || len(bad) != 1 || bad[0].At != 1 {
			t.Errorf("byte %d begins a second simple word: %v %v", b, l, bad)
		}
		if l, bad, _ := lexis.Tokens([]byte("-" + c)); (len(bad) == 0) != (b == '>' || digit && b != '0') {
			t.Errorf("byte %d behind a minus: %v %v", b, l, bad)
		}
	}
}

func TestTokensWords(t *testing.T) {
	for _, s := range []string{"A", "_", "__", "a1", "A_b_9", "_:a", "p:X", "go:part_of", "_1:Z9_", "and", "Z", "z0"} {
		expect(t, s, []api.Token{word(s, 0)}, nil)
		expect(t, " "+s+"\n", []api.Token{word(s, 1)}, nil)
	}
	expect(t, "A sub B.", []api.Token{word("A", 0), word("sub", 2), word("B", 6), sign(".", 7)}, nil)
	expect(t, "a: b", []api.Token{word("a", 0), word("b", 3)}, []int{1})
	expect(t, "a :b", []api.Token{word("a", 0), word("b", 3)}, []int{2})
	expect(t, "a:", []api.Token{word("a", 0)}, []int{1})
	expect(t, ":a", []api.Token{word("a", 1)}, []int{0})
	expect(t, "a::b", []api.Token{word("a", 0), word("b", 3)}, []int{1})
	expect(t, "a:_b", []api.Token{word("a", 0), word("_b", 2)}, []int{1})
	expect(t, "a:1", []api.Token{word("a", 0), number("1", 2)}, []int{1})
	expect(t, "a:1b", []api.Token{word("a", 0)}, []int{1})
	expect(t, "a:b:c:d", []api.Token{word("a:b", 0), word("c:d", 4)}, []int{3})
	expect(t, "a\xc3\xa4b", []api.Token{word("a", 0), word("b", 3)}, []int{1})
}

func TestTokensIntegers(t *testing.T) {
	ones := strings.Repeat("1", 18)
	for _, s := range []string{"0", "7", "10", "-1", "-10", "999999999999999999", "-999999999999999999", ones, "-" + ones} {
		expect(t, s, []api.Token{number(s, 0)}, nil)
		expect(t, "("+s+")", []api.Token{sign("(", 0), number(s, 1), sign(")", 1+len(s))}, nil)
	}
	for _, s := range []string{"00", "01", "-0", "-00", "-01", ones + "1", "-" + ones + "1", "5x", "-5x", "5_", "0x", "0_", "-7_7"} {
		expect(t, s, nil, []int{0})
		expect(t, "A "+s+" B", []api.Token{word("A", 0), word("B", len(s)+3)}, []int{2})
	}
	expect(t, "f in -3 to 10", []api.Token{word("f", 0), word("in", 2), number("-3", 5), word("to", 8), number("10", 11)}, nil)
	expect(t, "1-2", []api.Token{number("1", 0), number("-2", 1)}, nil)
	expect(t, "--5", []api.Token{number("-5", 1)}, []int{0})
	expect(t, "- 5", []api.Token{number("5", 2)}, []int{0})
	expect(t, "+5", []api.Token{number("5", 1)}, []int{0})
	expect(t, "1.5", []api.Token{number("1", 0), sign(".", 1), number("5", 2)}, nil)
	expect(t, "5:a", []api.Token{number("5", 0), word("a", 2)}, []int{1})
	expect(t, "5x:a", []api.Token{word("a", 3)}, []int{0})
	expect(t, strings.Repeat("9", api.MaxSource), nil, []int{0})
}

func TestTokensSigns(t *testing.T) {
	var all []api.Token
	at := 0
	for _, s := range strings.Fields(signs) {
		expect(t, s, []api.Token{sign(s, 0)}, nil)
		expect(t, s+s, []api.Token{sign(s, 0), sign(s, len(s))}, nil)
		all = append(all, sign(s, at))
		at += len(s)
	}
	expect(t, strings.ReplaceAll(signs, " ", ""), all, nil)
	expect(t, "a->b-c", []api.Token{word("a", 0), sign("->", 1), word("b", 3), word("c", 5)}, []int{4})
	expect(t, "->-5", []api.Token{sign("->", 0), number("-5", 2)}, nil)
	expect(t, "->>", []api.Token{sign("->", 0)}, []int{2})
	expect(t, "-->", []api.Token{sign("->", 1)}, []int{0})
	expect(t, "- >", nil, []int{0, 2})
	expect(t, ">", nil, []int{0})
	expect(t, "<->", []api.Token{sign("<", 0), sign("->", 1)}, nil)
}

func TestTokensWhiteSpaceAndComments(t *testing.T) {
	expect(t, " \t\n\r", nil, nil)
	expect(t, " A\tB\nC\rD ", []api.Token{word("A", 1), word("B", 3), word("C", 5), word("D", 7)}, nil)
	expect(t, "A\vB\fC", []api.Token{word("A", 0), word("B", 2), word("C", 4)}, []int{1, 3})
	expect(t, "#", nil, nil)
	expect(t, "#\n", nil, nil)
	expect(t, "##\n#\n\n # %\nA", []api.Token{word("A", 11)}, nil)
	expect(t, "A#%\nB", []api.Token{word("A", 0), word("B", 4)}, nil)
	expect(t, "A#\rB\nC", []api.Token{word("A", 0), word("C", 5)}, nil)
	expect(t, "a:#\nb", []api.Token{word("a", 0), word("b", 4)}, []int{1})
	expect(t, "-#\n5", []api.Token{number("5", 3)}, []int{0})
	expect(t, "1#2\n3", []api.Token{number("1", 0), number("3", 4)}, nil)
	expect(t, "# \xff\x00 %", nil, nil)
}

func TestTokensRuns(t *testing.T) {
	expect(t, "%%%", nil, []int{0})
	expect(t, "%% % 7a$\nA", []api.Token{word("A", 9)}, []int{0, 3, 5})
	expect(t, "%\t%\n%\r%", nil, []int{0, 2, 4, 6})
	expect(t, "%#\n%", nil, []int{0, 3})
	expect(t, "%#%", nil, []int{0})
	expect(t, "%A%", []api.Token{word("A", 1)}, []int{0, 2})
	expect(t, "%5%", []api.Token{number("5", 1)}, []int{0, 2})
	expect(t, "%.%", []api.Token{sign(".", 1)}, []int{0, 2})
	expect(t, "%->%", []api.Token{sign("->", 1)}, []int{0, 3})
	expect(t, "%5x%-0:-", nil, []int{0})
	expect(t, "5x-5", []api.Token{number("-5", 2)}, []int{0})
	expect(t, "5x-5x", nil, []int{0})
	expect(t, "\x00\x7f\x80\xff", nil, []int{0})
	expect(t, "0 00 -0 5x", []api.Token{number("0", 0)}, []int{2, 5, 8})
}

// P1.1: the first 64 runs are reported; what follows is read nevertheless.
func TestTokensProblemLimit(t *testing.T) {
	for _, n := range []int{63, 64, 65, 1000} {
		var l []api.Token
		var bad []int
		for k := range n {
			if k < api.MaxProblems {
				bad = append(bad, 3*k)
			}
			l = append(l, word("A", 3*k+2))
		}
		expect(t, strings.Repeat("%%A", n), l, bad)
	}
}

func TestTokensSourceLimit(t *testing.T) {
	longest := strings.Repeat("a", api.MaxSource)
	expect(t, longest, []api.Token{word(longest, 0)}, nil)
	expect(t, strings.Repeat(" ", api.MaxSource), nil, nil)
	expect(t, strings.Repeat("%", api.MaxSource), nil, []int{0})
	expect(t, "#"+strings.Repeat("%", api.MaxSource-1), nil, nil)
	for _, s := range []string{"a", " ", "%", "#"} {
		l, bad, e := lexis.Tokens([]byte(strings.Repeat(s, api.MaxSource+1)))
		if e != api.ErrLimit || len(l) != 0 || len(bad) != 0 {
			t.Errorf("a source of %q that is too long: %d tokens, %v, %d", s, len(l), bad, e)
		}
	}
	expect(t, strings.Repeat("a ", api.MaxSource/2), manyWords(api.MaxSource/2), nil)
}

func manyWords(n int) (l []api.Token) {
	for k := range n {
		l = append(l, word("a", 2*k))
	}
	return l
}

// R2 and R6: the source is neither changed nor kept, and equal calls return equal results.
func TestTokensLeavesItsSource(t *testing.T) {
	const text = "A sub p:B. # x\n-5 %"
	src := []byte(text)
	l, bad, _ := lexis.Tokens(src)
	first := fmt.Sprint(l, bad)
	if string(src) != text {
		t.Errorf("the source became %q", src)
	}
	for k := range src {
		src[k] = '%'
	}
	if fmt.Sprint(l, bad) != first {
		t.Errorf("the tokens share memory with their source: %v %v", l, bad)
	}
	l[0], bad[0] = api.Token{}, api.Problem{}
	if again, problems, _ := lexis.Tokens([]byte(text)); fmt.Sprint(again, problems) != first {
		t.Errorf("the second call returns %v %v", again, problems)
	}
	if l, bad, e := lexis.Tokens(nil); e != api.OK || len(bad) != 0 || !slices.Equal(l, []api.Token{{Kind: api.TokEnd}}) {
		t.Errorf("Tokens(nil) = %v, %v, %d", l, bad, e)
	}
}
