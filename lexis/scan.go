package lexis

import (
	"strings"

	"veilstone/api"
)

// invalid is the kind that scan gives to bytes that are no token.
const invalid = 0

// maxDigits is the greatest number of digits of an integer.
const maxDigits = 18

// Classes of bytes; a byte that begins nothing has the class other.
const (
	other = iota
	white
	hash
	letter
	underscore
	digit
	minus
	sign
)

// classes contains the class of each byte below 128; all other bytes are of the class other.
var classes = [128]uint8{
	'\t': white, '\n': white, '\r': white, ' ': white,
	'#': hash,
	'a': letter, 'b': letter, 'c': letter, 'd': letter, 'e': letter, 'f': letter, 'g': letter,
	'h': letter, 'i': letter, 'j': letter, 'k': letter, 'l': letter, 'm': letter, 'n': letter,
	'o': letter, 'p': letter, 'q': letter, 'r': letter, 's': letter, 't': letter, 'u': letter,
	'v': letter, 'w': letter, 'x': letter, 'y': letter, 'z': letter,
	'A': letter, 'B': letter, 'C': letter, 'D': letter, 'E': letter, 'F': letter, 'G': letter,
	'H': letter, 'I': letter, 'J': letter, 'K': letter, 'L': letter, 'M': letter, 'N': letter,
	'O': letter, 'P': letter, 'Q': letter, 'R': letter, 'S': letter, 'T': letter, 'U': letter,
	'V': letter, 'W': letter, 'X': letter, 'Y': letter, 'Z': letter,
	'_': underscore,
	'0': digit, '1': digit, '2': digit, '3': digit, '4': digit,
	'5': digit, '6': digit, '7': digit, '8': digit, '9': digit,
	'-': minus,
	'(': sign, ')': sign, '[': sign, ']': sign, '{': sign, '}': sign,
	',': sign, '.': sign, '<': sign, '=': sign, '|': sign, '?': sign,
}

// classAt returns the class of the byte at an offset; beyond the text it is other.
func classAt(text string, at int) uint8 {
	if at >= len(text) || text[at] >= 128 {
		return other
	}
	return classes[text[at]]
}

// skip returns the offset behind the white space and the comments that begin at an offset.
func skip(text string, at int) int {
again:
	for classAt(text, at) == white {
		at++
	}
	if classAt(text, at) == hash {
		for at < len(text) && text[at] != '\n' {
			at++
		}
		goto again
	}
	return at
}

// scan returns the kind of the token at an offset, and where it ends. Bytes that have to be skipped together have the kind invalid.
func scan(text string, at int) (kind, end int) {
	switch classAt(text, at) {
	case letter, underscore:
		return api.TokWord, wordEnd(text, at)
	case digit:
		return scanNumber(text, at, at)
	case minus:
		return scanMinus(text, at)
	case sign:
		return api.TokSign, at + 1
	}
	return invalid, at + 1
}

// scanMinus scans what begins with a minus.
func scanMinus(text string, at int) (kind, end int) {
	if strings.HasPrefix(text[at:], "->") {
		return api.TokSign, at + 2
	}
	if classAt(text, at+1) == digit {
		return scanNumber(text, at, at+1)
	}
	return invalid, at + 1
}

// scanNumber scans what looks like an integer from an offset on; its digits begin at another offset.
func scanNumber(text string, at, digits int) (kind, end int) {
	end = tailEnd(text, digits)
	if isInteger(text[at:end]) {
		return api.TokInt, end
	}
	return invalid, end
}

// isInteger reports whether a text is an integer.
func isInteger(text string) bool {
	if text == "0" {
		return true
	}
	digits := strings.TrimPrefix(text, "-")
	if digits == "" || len(digits) > maxDigits || digits[0] == '0' {
		return false
	}
	for i := range len(digits) {
		if classAt(digits, i) != digit {
			return false
		}
	}
	return true
}

// wordEnd returns where the longest word that begins at an offset ends.
func wordEnd(text string, at int) int {
	end := tailEnd(text, at)
	if end < len(text) && text[end] == ':' && classAt(text, end+1) == letter {
		return tailEnd(text, end+1)
	}
	return end
}

// tailEnd returns where the letters, digits and underscores that begin at an offset end.
func tailEnd(text string, at int) int {
	for {
		switch classAt(text, at) {
		case letter, underscore, digit:
			at++
		default:
			return at
		}
	}
}
