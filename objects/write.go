package objects

import "veilstone/api"

// writer collects the bytes of an encoding.
type writer struct{ bytes []byte }

func (w *writer) byte(n int) { w.bytes = append(w.bytes, byte(n)) }

func (w *writer) number(n int) {
	for shift := 56; shift >= 0; shift -= 8 {
		w.bytes = append(w.bytes, byte(uint64(n)>>shift))
	}
}

// count writes a number of elements.
func (w *writer) count(n int) {
	for shift := 24; shift >= 0; shift -= 8 {
		w.bytes = append(w.bytes, byte(n>>shift))
	}
}

func (w *writer) text(s string) {
	w.count(len(s))
	w.bytes = append(w.bytes, s...)
}

func (w *writer) texts(l []string) {
	w.count(len(l))
	for _, s := range l {
		w.text(s)
	}
}

func (w *writer) digest(d api.Digest) { w.bytes = append(w.bytes, d[:]...) }

func (w *writer) digests(l []api.Digest) {
	w.count(len(l))
	for _, d := range l {
		w.digest(d)
	}
}

func (w *writer) concept(c api.Concept) {
	w.byte(c.Kind)
	w.text(c.Name)
	w.number(c.Lo)
	w.number(c.Hi)
	w.count(len(c.Parts))
	for _, p := range c.Parts {
		w.concept(p)
	}
}

func (w *writer) axiom(a api.Axiom) {
	w.byte(a.Kind)
	open := 0
	if a.Open {
		open = 1
	}
	w.byte(open)
	w.concept(a.Left)
	w.concept(a.Right)
	w.texts(a.Roles)
	w.text(a.Role)
	w.text(a.A)
	w.text(a.B)
}

func (w *writer) axioms(l []api.Axiom) {
	w.count(len(l))
	for _, a := range l {
		w.axiom(a)
	}
}

func (w *writer) commit(c api.Commit) {
	w.number(c.No)
	w.count(len(c.Parents))
	for _, n := range c.Parents {
		w.number(n)
	}
	w.digest(c.Base)
	w.text(c.Message)
}

func (w *writer) query(q api.Query) {
	w.texts(q.Told)
	w.count(len(q.Parts))
	for _, p := range q.Parts {
		w.count(len(p.Atoms))
		for _, a := range p.Atoms {
			w.byte(a.Kind)
			w.text(a.Name)
			w.text(a.X)
			w.text(a.Y)
			w.number(a.Lo)
			w.number(a.Hi)
		}
	}
}

func (w *writer) alignment(a api.Alignment) {
	w.text(a.Name)
	w.digest(a.Base)
	w.axioms(a.Axioms)
	w.digest(a.Public)
	w.number(a.Sig.Index)
	w.digests(a.Sig.Parts)
	w.digests(a.Sig.Path)
}
