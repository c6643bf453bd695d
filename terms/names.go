package terms

import (
	"slices"
	"strings"

	"veilstone/api"
)

// CheckName validates a name.
func CheckName(name string) (e api.Errno) {
	if isPlain(name) || isReserved(name) {
		return api.OK
	}
	return api.ErrName
}

// isPlain reports whether a text is a plain name.
func isPlain(name string) bool {
	if len(name) > api.MaxName {
		return false
	}
	first, second, two := strings.Cut(name, ":")
	return isWord(first) && (!two || isWord(second))
}

// isReserved reports whether a text is a reserved name.
func isReserved(name string) bool {
	return len(name) >= 2 && len(name) <= api.MaxName && name[0] == '_' && isTail(name[1:])
}

// isWord reports whether a text is a word that is no keyword.
func isWord(s string) bool {
	return s != "" && isLetter(s[0]) && isTail(s) && !isKeyword(s)
}

// isTail reports whether a text consists of letters, digits and underscores.
func isTail(s string) bool {
	for i := range len(s) {
		if b := s[i]; !isLetter(b) && b != '_' && (b < '0' || b > '9') {
			return false
		}
	}
	return true
}

func isLetter(b byte) bool { return 'a' <= b && b <= 'z' || 'A' <= b && b <= 'Z' }

func isKeyword(s string) bool {
	switch s {
	case "and", "some", "in", "to", "nothing", "everything", "one", "of",
		"open", "private",
		"sub", "same", "disjoint", "domain", "role", "chain", "reflexive", "type", "link",
		"select", "where", "or":
		return true
	}
	return false
}

// addName appends a name that is used.
func addName(l []string, name string) []string {
	if name == "" {
		return l
	}
	return append(l, name)
}

// unique sorts names and drops repetitions.
func unique(l []string) []string {
	slices.Sort(l)
	return slices.Compact(l)
}
