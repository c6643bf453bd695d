package checker

import (
	"math"

	"veilstone/api"
)

const (
	maxByte  = math.MaxUint8
	maxText  = math.MaxUint16
	maxInt32 = math.MaxInt32
)

// Encode encodes a proof as bytes.
func Encode(x api.Proof) (b []byte, e api.Errno) {
	if len(x.Steps) > api.MaxSteps {
		return nil, api.ErrLimit
	}
	for _, s := range x.Steps {
		if !canEncode(s) {
			return nil, api.ErrProof
		}
	}
	b = number(b, len(x.Steps), 4)
	for _, s := range x.Steps {
		b = number(b, s.Rule, 1)
		b = number(b, s.Fact.Kind, 1)
		for _, t := range [3]string{s.Fact.A, s.Fact.B, s.Fact.R} {
			b = append(number(b, len(t), 2), t...)
		}
		b = number(b, s.Fact.Lo, 8)
		b = number(b, s.Fact.Hi, 8)
		b = number(b, s.Piece+1, 4)
		b = number(b, len(s.From), 1)
		for _, n := range s.From {
			b = number(b, n, 4)
		}
	}
	return b, api.OK
}

func canEncode(s api.Step) bool {
	for _, n := range s.From {
		if n < 0 || n > maxInt32 {
			return false
		}
	}
	f := s.Fact
	return s.Rule >= 0 && s.Rule <= maxByte && f.Kind >= 0 && f.Kind <= maxByte &&
		len(f.A) <= maxText && len(f.B) <= maxText && len(f.R) <= maxText &&
		s.Piece >= -1 && s.Piece <= maxInt32-1 && len(s.From) <= maxByte
}

// number appends the last bytes of a number, the most significant one first.
func number(b []byte, n, bytes int) []byte {
	for i := bytes - 1; i >= 0; i-- {
		b = append(b, byte(uint64(n)>>(8*i)))
	}
	return b
}

// decoder reads bytes.
type decoder struct{ rest []byte }

func (d *decoder) take(n int) []byte {
	require(n <= len(d.rest))
	b := d.rest[:n]
	d.rest = d.rest[n:]
	return b
}

func (d *decoder) number(bytes int) int {
	var n uint64
	for _, x := range d.take(bytes) {
		n = n<<8 | uint64(x)
	}
	return int(n)
}

func (d *decoder) byte() int  { return d.number(1) }
func (d *decoder) short() int { return d.number(2) }
func (d *decoder) long() int  { return d.number(8) }

// index reads a number of four bytes that is below 2^31.
func (d *decoder) index() int {
	n := d.number(4)
	require(n <= maxInt32)
	return n
}

func (d *decoder) text() string { return string(d.take(d.short())) }

func (d *decoder) step() (s api.Step) {
	// The fields in the order of the encoding, each with the method that reads it.
	for _, x := range []struct {
		to   *int
		read func() int
	}{{&s.Rule, d.byte}, {&s.Fact.Kind, d.byte}} {
		*x.to = x.read()
	}
	for _, to := range []*string{&s.Fact.A, &s.Fact.B, &s.Fact.R} {
		*to = d.text()
	}
	for _, x := range []struct {
		to   *int
		read func() int
	}{{&s.Fact.Lo, d.long}, {&s.Fact.Hi, d.long}, {&s.Piece, d.index}} {
		*x.to = x.read()
	}
	s.Piece--
	for range d.byte() {
		s.From = append(s.From, d.index())
	}
	return s
}

// Decode decodes a proof.
func Decode(b []byte) (x api.Proof, e api.Errno) {
	defer func() {
		if recover() != nil {
			x, e = api.Proof{}, api.ErrProof
		}
	}()
	d := &decoder{rest: b}
	many := d.number(4)
	require(many <= api.MaxSteps)
	for range many {
		x.Steps = append(x.Steps, d.step())
	}
	require(len(d.rest) == 0)
	return x, api.OK
}
