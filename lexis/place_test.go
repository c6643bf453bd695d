package lexis_test

import (
	"bytes"
	"math"
	"testing"

	"veilstone/api"
	"veilstone/lexis"
)

func expectPlace(t *testing.T, src string, at, line, column int, e api.Errno) {
	t.Helper()
	if l, c, err := lexis.Place([]byte(src), at); l != line || c != column || err != e {
		t.Errorf("Place(%.40q, %d) = %d, %d, %d, want %d, %d, %d", src, at, l, c, err, line, column, e)
	}
}

// P1.3
func TestPlace(t *testing.T) {
	expectPlace(t, "ab\nc", 4, 2, 2, api.OK)
	expectPlace(t, "", 0, 1, 1, api.OK)
	for at, want := range [][2]int{{1, 1}, {1, 2}, {1, 3}, {2, 1}, {3, 1}, {3, 2}, {3, 3}} {
		expectPlace(t, "ab\n\ncd", at, want[0], want[1], api.OK)
	}
	for at, want := range [][2]int{{1, 1}, {2, 1}, {3, 1}} {
		expectPlace(t, "\n\n", at, want[0], want[1], api.OK)
	}
	// Only the byte 10 ends a line, and columns count bytes.
	expectPlace(t, "a\r\v\f\x85\xe2\x80\xa8b", 8, 1, 9, api.OK)
	expectPlace(t, "\xc3\xa4\n\xc3\xa4x", 5, 2, 3, api.OK)
	expectPlace(t, "# a % comment\r\nb", 15, 2, 1, api.OK)
}

func TestPlaceRejects(t *testing.T) {
	for _, at := range []int{-1, 5, 6, math.MinInt, math.MaxInt} {
		expectPlace(t, "ab\nc", at, 0, 0, api.ErrArg)
	}
	expectPlace(t, "", -1, 0, 0, api.ErrArg)
	expectPlace(t, "", 1, 0, 0, api.ErrArg)
	longest := string(bytes.Repeat([]byte("\n"), api.MaxSource))
	expectPlace(t, longest, api.MaxSource, api.MaxSource+1, 1, api.OK)
	expectPlace(t, longest, api.MaxSource+1, 0, 0, api.ErrArg)
	for _, at := range []int{-1, 0, api.MaxSource + 1, api.MaxSource + 2} {
		expectPlace(t, longest+"\n", at, 0, 0, api.ErrLimit)
	}
}

// P1.3: every offset of a text, against the definition.
func TestPlaceByDefinition(t *testing.T) {
	src := []byte("A sub B.\n\n# c\r\n  type a A.\n\n\n%")
	for at := range len(src) + 1 {
		begin := bytes.LastIndexByte(src[:at], 10) + 1
		expectPlace(t, string(src), at, 1+bytes.Count(src[:at], []byte{10}), at-begin+1, api.OK)
	}
}
