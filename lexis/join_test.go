package lexis_test

import (
	"slices"
	"strings"
	"testing"

	"veilstone/api"
	"veilstone/lexis"
)

const keywords = "and some in to nothing everything one of open private sub same disjoint domain role chain reflexive type link select where or"

// P1.2: the 22 keywords, and nothing that differs from them in a byte.
func TestKeyword(t *testing.T) {
	l := strings.Fields(keywords)
	if len(l) != 22 {
		t.Fatalf("%d keywords", len(l))
	}
	for _, s := range l {
		if !lexis.Keyword(s) {
			t.Errorf("%q is a keyword", s)
		}
		for _, x := range []string{strings.ToUpper(s), strings.ToUpper(s[:1]) + s[1:], s + "s", "_" + s, s + " ", " " + s, s + "\x00", s + ":" + s, s[:len(s)-1] + "_"} {
			if lexis.Keyword(x) {
				t.Errorf("%q is no keyword", x)
			}
		}
	}
}

// P1.2: no other word of up to 3 letters, and none of the words that look like keywords.
func TestNotKeyword(t *testing.T) {
	l := strings.Fields(keywords)
	check := func(s string) {
		if lexis.Keyword(s) != slices.Contains(l, s) {
			t.Errorf("Keyword(%q) = %v", s, !slices.Contains(l, s))
		}
	}
	check("")
	const letters = "abcdefghijklmnopqrstuvwxyzABCDEFGHIJKLMNOPQRSTUVWXYZ_0123456789"
	for _, a := range letters {
		check(string(a))
		for _, b := range letters {
			check(string(a) + string(b))
			for _, c := range letters {
				check(string(a) + string(b) + string(c))
			}
		}
	}
	for _, s := range strings.Fields("And AND thing top bottom not all only individual feature range concept equiv inverse transitive from group ask count why differ merge commit branch tag policy ( -> 0 -5 . ?") {
		check(s)
	}
}

// texts makes tokens of a kind each of the texts, and an end; their offsets mean nothing.
func texts(kind int, l ...string) (out []api.Token) {
	for _, s := range l {
		out = append(out, api.Token{Kind: kind, Text: s, At: -7})
	}
	return append(out, api.Token{Kind: api.TokEnd, At: 1 << 62})
}

func TestJoin(t *testing.T) {
	end := api.Token{Kind: api.TokEnd}
	longest := strings.Repeat("a", api.MaxSource)
	for k, x := range []struct {
		l    []api.Token
		want string
	}{
		{[]api.Token{end}, ""},
		{[]api.Token{{Kind: api.TokEnd, At: -1}}, ""},
		{[]api.Token{word("A", 0), end}, "A"},
		{[]api.Token{word("A", 5), sign("->", 5), sign("{", 0), number("-5", -3), sign("}", 99), end}, "A -> { -5 }"},
		{texts(api.TokWord, "A", "sub", "p:B", "_:x", "_1"), "A sub p:B _:x _1"},
		{texts(api.TokInt, "0", "1", "-1", "999999999999999999", "-999999999999999999"), "0 1 -1 999999999999999999 -999999999999999999"},
		{texts(api.TokSign, strings.Fields(signs)...), signs},
		{texts(api.TokWord, strings.Fields(keywords)...), keywords},
		{texts(api.TokWord, longest), longest},
		{texts(api.TokWord, longest[:api.MaxSource-2], "b"), longest[:api.MaxSource-2] + " b"},
		{append(manyWords(api.MaxSource/2), end), strings.Repeat("a ", api.MaxSource/2-1) + "a"},
	} {
		if b, e := lexis.Join(x.l); string(b) != x.want || e != api.OK {
			t.Errorf("case %d: %.80q, %d, want %.80q", k, b, e, x.want)
		}
	}
}

func TestJoinRejects(t *testing.T) {
	end := api.Token{Kind: api.TokEnd}
	digits19 := strings.Repeat("1", 19)
	lists := [][]api.Token{
		nil,
		{},
		{word("A", 0)},
		{end, word("A", 0)},
		{end, end},
		{word("A", 0), end, word("B", 0), end},
		{{Kind: api.TokEnd, Text: "A"}},
		{{Kind: api.TokEnd, Text: " "}},
		{{}},
		{word("A", 0), {}},
	}
	for _, s := range []string{"", "a b", " a", "a ", "a\n", "-5", "5", "5a", "#", "a#", ":", "a:", ":a", "a:_b", "a:1", "a::b", "a:b:c", "a-b", "%", "(", "->", "\xc3\xa4", "a\xff", "a\x00"} {
		lists = append(lists, texts(api.TokWord, s))
	}
	for _, s := range []string{"", "-", "--5", "-0", "00", "01", "-01", "05", "+5", " 5", "5 ", "5x", "5_", "-5x", "5-", "1 2", "1.5", digits19, "-" + digits19, "a", "(", "->", "%"} {
		lists = append(lists, texts(api.TokInt, s))
	}
	for _, s := range []string{"", "-", ">", "- >", "->>", "-->", "((", "()", " (", "( ", ":", ";", "#", "%", "a", "0", "-5", "\xff"} {
		lists = append(lists, texts(api.TokSign, s))
	}
	for _, kind := range []int{-1, 0, 5, 9, 1 << 62} {
		for _, s := range []string{"", "A", "5", "(", "%", "-"} {
			lists = append(lists, texts(kind, s))
		}
	}
	for _, l := range lists {
		if b, e := lexis.Join(l); e != api.ErrArg || len(b) != 0 {
			t.Errorf("Join(%v) = %q, %d", l, b, e)
		}
		// An invalid token counts before the limit, wherever it stands.
		long := append(texts(api.TokWord, strings.Repeat("a", api.MaxSource+1))[:1], l...)
		if b, e := lexis.Join(long); len(l) > 0 && (e != api.ErrArg || len(b) != 0) {
			t.Errorf("Join of a long word and %v = %d bytes, %d", l, len(b), e)
		}
	}
}

func TestJoinLimit(t *testing.T) {
	longest := strings.Repeat("a", api.MaxSource)
	for _, l := range [][]api.Token{
		texts(api.TokWord, longest+"a"),
		texts(api.TokWord, longest, "b"),
		texts(api.TokWord, longest[:api.MaxSource-1], "b"),
		append(manyWords(api.MaxSource/2+1), api.Token{Kind: api.TokEnd}),
	} {
		if b, e := lexis.Join(l); e != api.ErrLimit || len(b) != 0 {
			t.Errorf("%d tokens: %d bytes, %d", len(l), len(b), e)
		}
	}
}

// R2: the tokens are not changed, and two results share no memory that matters.
func TestJoinLeavesItsTokens(t *testing.T) {
	l := texts(api.TokWord, "A", "b")
	before := slices.Clone(l)
	b, _ := lexis.Join(l)
	b[0] = '%'
	if c, e := lexis.Join(l); string(c) != "A b" || e != api.OK || !slices.Equal(l, before) {
		t.Errorf("%q, %d, %v", c, e, l)
	}
}
