package reply

import (
	"bytes"
	"strconv"
	"strings"

	"veilstone/api"
	"veilstone/printer"
	"veilstone/syntax"
	"veilstone/terms"
)

const (
	maxCode    = 999
	maxPart    = 3
	maxAxioms  = 1024
	codeWord   = "code"
	countWord  = "count"
	moreWord   = "more"
	lessWord   = "less"
	whysWord   = "whys"
	singleWord = "why"
)

func number(n int) string { return strconv.Itoa(n) }

func isValid(x api.Reply) bool {
	if x.Code < 0 || x.Code > maxCode || x.Count < 0 || x.Count > api.MaxAnswers || len(x.Whys) > api.MaxSets {
		return false
	}
	for _, w := range x.Whys {
		if !isWhy(w) {
			return false
		}
	}
	return areAnswers(x.More) && areAnswers(x.Less)
}

func areAnswers(l []api.Told) bool {
	if len(l) > api.MaxAnswers {
		return false
	}
	for _, t := range l {
		if t.Part < 0 || t.Part > maxPart || len(t.Tuple) > api.MaxTold {
			return false
		}
		for _, name := range t.Tuple {
			if terms.CheckName(name) != api.OK || name[0] == '_' {
				return false
			}
		}
	}
	return true
}

func isWhy(w api.Why) bool {
	if len(w.Axioms) > maxAxioms || len(w.Entries) > maxAxioms {
		return false
	}
	for i, n := range w.Entries {
		if n < 1 || n > api.MaxEntries || i > 0 && w.Entries[i-1] >= n {
			return false
		}
	}
	for _, a := range w.Axioms {
		x, e := terms.TidyAxiom(a)
		if e != api.OK || !a.Open || terms.CompareAxiom(a, x) != 0 {
			return false
		}
		n, e := terms.Vocabulary([]api.Axiom{a})
		if e != api.OK {
			return false
		}
		// Only individuals may have names that begin with "_".
		for _, name := range n.Individuals {
			if name[0] == '_' {
				return false
			}
		}
	}
	return true
}

// writer collects lines.
type writer struct{ bytes []byte }

// line writes words as a line.
func (w *writer) line(words ...string) {
	w.bytes = append(w.bytes, strings.Join(words, " ")+"\n"...)
}

func (w *writer) answers(word string, l []api.Told) {
	w.line(word, number(len(l)))
	for _, t := range l {
		w.line(append([]string{number(t.Part)}, t.Tuple...)...)
	}
}

// Encode encodes a reply.
func Encode(x api.Reply) (b []byte, e api.Errno) {
	if !isValid(x) {
		return nil, api.ErrArg
	}
	w := &writer{}
	w.line(codeWord, number(int(x.Code)))
	w.line(countWord, number(x.Count))
	w.answers(moreWord, x.More)
	w.answers(lessWord, x.Less)
	w.line(whysWord, number(len(x.Whys)))
	for _, y := range x.Whys {
		w.line(singleWord, number(len(y.Axioms)), number(len(y.Entries)))
		for _, a := range y.Axioms {
			text, e := printer.Axiom(a)
			if e != api.OK {
				return nil, api.ErrArg
			}
			w.line(text)
		}
		if len(y.Entries) > 0 {
			var numbers []string
			for _, n := range y.Entries {
				numbers = append(numbers, number(n))
			}
			w.line(numbers...)
		}
	}
	return w.bytes, api.OK
}

// malformed is what the reader panics with.
type malformed struct{}

func require(ok bool) {
	if !ok {
		panic(malformed{})
	}
}

// reader reads lines.
type reader struct{ lines []string }

func (r *reader) line() string {
	require(len(r.lines) > 0)
	s := r.lines[0]
	r.lines = r.lines[1:]
	return s
}

func integer(s string) int {
	n, err := strconv.Atoi(s)
	require(err == nil)
	return n
}

// counts reads a line with a word and some numbers.
func (r *reader) counts(word string, many int) (l []int) {
	fields := strings.Split(r.line(), " ")
	require(len(fields) == many+1 && fields[0] == word)
	for _, f := range fields[1:] {
		l = append(l, integer(f))
	}
	return l
}

func (r *reader) answers(word string) (l []api.Told) {
	many := r.counts(word, 1)[0]
	require(many <= api.MaxAnswers)
	for range many {
		fields := strings.Split(r.line(), " ")
		l = append(l, api.Told{Part: integer(fields[0]), Tuple: fields[1:]})
	}
	return l
}

func (r *reader) why() (w api.Why) {
	counts := r.counts(singleWord, 2)
	require(counts[0] <= maxAxioms)
	for range counts[0] {
		a, _, e := syntax.Axiom([]byte(r.line()))
		require(e == api.OK)
		w.Axioms = append(w.Axioms, a)
	}
	if counts[1] > 0 {
		for _, s := range strings.Split(r.line(), " ") {
			w.Entries = append(w.Entries, integer(s))
		}
	}
	return w
}

// Decode decodes a reply.
func Decode(b []byte) (x api.Reply, e api.Errno) {
	defer func() {
		if recover() != nil {
			x, e = api.Reply{}, api.ErrRequest
		}
	}()
	r := &reader{lines: strings.Split(string(b), "\n")}
	x.Code = api.Errno(r.counts(codeWord, 1)[0])
	x.Count = r.counts(countWord, 1)[0]
	x.More = r.answers(moreWord)
	x.Less = r.answers(lessWord)
	many := r.counts(whysWord, 1)[0]
	require(many <= api.MaxSets)
	for range many {
		x.Whys = append(x.Whys, r.why())
	}
	again, e := Encode(x)
	require(e == api.OK && bytes.Equal(again, b))
	return x, api.OK
}
