package ledger

import (
	"bytes"

	"veilstone/api"
	"veilstone/objects"
)

// Encode encodes an entry of a ledger.
func Encode(reader string, version int, x api.Entry) (b []byte, e api.Errno) {
	if !isReader(reader) || !isVersion(version) || x.No < 1 || x.No > api.MaxEntries {
		return nil, api.ErrArg
	}
	q, e := objects.Query(queryOf(x.Part))
	if e != api.OK {
		return nil, e
	}
	b = appendNumber(b, len(reader), 4)
	b = append(b, reader...)
	b = appendNumber(b, version, 8)
	b = appendNumber(b, x.No, 8)
	return append(b, q...), api.OK
}

// appendNumber appends the last bytes of a number, the most significant one first.
func appendNumber(b []byte, n, bytes int) []byte {
	for i := bytes - 1; i >= 0; i-- {
		b = append(b, byte(uint64(n)>>(8*i)))
	}
	return b
}

// malformed is what the reader of bytes panics with.
type malformed struct{}

// source is what remains to be read.
type source struct{ rest []byte }

func (s *source) take(n int) []byte {
	if n > len(s.rest) {
		panic(malformed{})
	}
	b := s.rest[:n:n] // nothing can be appended into what is still to be read
	s.rest = s.rest[n:]
	return b
}

func (s *source) number(bytes int) (n int) {
	for _, b := range s.take(bytes) {
		n = n<<8 | int(b)
	}
	return n
}

// Decode decodes an entry.
func Decode(b []byte) (reader string, version int, x api.Entry, e api.Errno) {
	defer func() {
		if recover() != nil {
			reader, version, x, e = "", 0, api.Entry{}, api.ErrLedger
		}
	}()
	s := &source{rest: b}
	reader = string(s.take(s.number(4)))
	version, x.No = s.number(8), s.number(8)
	q, e := objects.ReadQuery(s.rest)
	if e != api.OK || len(q.Parts) != 1 {
		panic(malformed{})
	}
	x.Part = q.Parts[0]
	if again, e := Encode(reader, version, x); e != api.OK || !bytes.Equal(again, b) {
		panic(malformed{})
	}
	return reader, version, x, api.OK
}
