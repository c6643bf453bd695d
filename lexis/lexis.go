// Package lexis splits texts into tokens. See shared/doc/01-lexis.md.
package lexis

import "veilstone/api"

// Tokens returns the tokens of a text, and the bytes that begin none.
func Tokens(src []byte) (l []api.Token, bad []api.Problem, e api.Errno) {
	if len(src) > api.MaxSource {
		return nil, nil, api.ErrLimit
	}
	text := string(src)
	// Invalid bytes belong to the run before them only if it ended exactly where they begin.
	runEnd := -1
	collect := func(from, to int) {
		if from != runEnd && len(bad) < api.MaxProblems {
			bad = append(bad, api.Problem{At: from, Code: api.ErrToken})
		}
		runEnd = to
	}
	at := skip(text, 0)
	for at < len(text) {
		kind, end := scan(text, at)
		if kind == invalid {
			collect(at, end)
		} else {
			l = append(l, api.Token{Kind: kind, Text: text[at:end], At: at})
		}
		at = skip(text, end)
	}
	return append(l, api.Token{Kind: api.TokEnd, At: len(text)}), bad, api.OK
}

// Keyword reports whether a word is a keyword.
func Keyword(word string) (ok bool) {
	switch word {
	case "and", "some", "in", "to", "nothing", "everything", "one", "of",
		"open", "private",
		"sub", "same", "disjoint", "domain", "role", "chain", "reflexive", "type", "link",
		"select", "where", "or":
		return true
	}
	return false
}

// Join returns a text with the given tokens.
func Join(l []api.Token) (b []byte, e api.Errno) {
	last := len(l) - 1
	if last < 0 || l[last].Kind != api.TokEnd || l[last].Text != "" {
		return nil, api.ErrArg
	}
	size := max(0, last-1) // the spaces
	for _, t := range l[:last] {
		if !isToken(t) {
			return nil, api.ErrArg
		}
		size += len(t.Text)
	}
	if size > api.MaxSource {
		return nil, api.ErrLimit
	}
	b = make([]byte, 0, size)
	for i, t := range l[:last] {
		if i > 0 {
			b = append(b, ' ')
		}
		b = append(b, t.Text...)
	}
	return b, api.OK
}

// isToken reports whether the text of a token is one of its kind, and more than the end.
func isToken(t api.Token) bool {
	kind, end := scan(t.Text, 0)
	return kind != invalid && kind == t.Kind && end == len(t.Text)
}

// Place returns the line and the column of an offset.
func Place(src []byte, at int) (line, column int, e api.Errno) {
	if len(src) > api.MaxSource {
		return 0, 0, api.ErrLimit
	}
	if at < 0 || at > len(src) {
		return 0, 0, api.ErrArg
	}
	line, column = 1, 1
	for _, b := range src[:at] {
		column++
		if b == '\n' {
			line, column = line+1, 1
		}
	}
	return line, column, api.OK
}
