package objects

import "veilstone/api"

// malformed is what the reader panics with.
type malformed struct{}

// reader reads an encoding.
type reader struct {
	rest  []byte
	depth int // of the concept that is read
}

func (r *reader) take(n int) []byte {
	if n > len(r.rest) {
		panic(malformed{})
	}
	b := r.rest[:n:n] // nothing can be appended into what is still to be read
	r.rest = r.rest[n:]
	return b
}

func (r *reader) byte() int { return int(r.take(1)[0]) }

func (r *reader) bigEndian(bytes int) (n uint64) {
	for _, b := range r.take(bytes) {
		n = n<<8 | uint64(b)
	}
	return n
}

func (r *reader) number() int  { return int(r.bigEndian(8)) }
func (r *reader) count() int   { return int(r.bigEndian(4)) }
func (r *reader) text() string { return string(r.take(r.count())) }

func (r *reader) digest() (d api.Digest) {
	copy(d[:], r.take(len(d)))
	return d
}

// list reads a list of values, each of which takes at least a byte.
func list[T any](r *reader, value func(*reader) T) (l []T) {
	for range r.count() {
		l = append(l, value(r))
	}
	return l
}

func (r *reader) concept() (c api.Concept) {
	// A concept that is nested more deeply is not valid anyway.
	if r.depth > api.MaxDepth {
		panic(malformed{})
	}
	r.depth++
	c.Kind = r.byte()
	c.Name = r.text()
	c.Lo = r.number()
	c.Hi = r.number()
	c.Parts = list(r, (*reader).concept)
	r.depth--
	return c
}

func (r *reader) axiom() (a api.Axiom) {
	a.Kind = r.byte()
	a.Open = r.byte() == 1
	a.Left = r.concept()
	a.Right = r.concept()
	a.Roles = list(r, (*reader).text)
	a.Role = r.text()
	a.A = r.text()
	a.B = r.text()
	return a
}

func (r *reader) commit() (c api.Commit) {
	c.No = r.number()
	c.Parents = list(r, (*reader).number)
	c.Base = r.digest()
	c.Message = r.text()
	return c
}

func (r *reader) atom() (a api.Atom) {
	a.Kind = r.byte()
	a.Name = r.text()
	a.X = r.text()
	a.Y = r.text()
	a.Lo = r.number()
	a.Hi = r.number()
	return a
}

func (r *reader) query() (q api.Query) {
	q.Told = list(r, (*reader).text)
	q.Parts = list(r, func(r *reader) api.Part { return api.Part{Atoms: list(r, (*reader).atom)} })
	return q
}

func (r *reader) alignment() (a api.Alignment) {
	a.Name = r.text()
	a.Base = r.digest()
	a.Axioms = list(r, (*reader).axiom)
	a.Public = r.digest()
	a.Sig.Index = r.number()
	a.Sig.Parts = list(r, (*reader).digest)
	a.Sig.Path = list(r, (*reader).digest)
	return a
}
