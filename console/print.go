package console

import (
	"strconv"

	"veilstone/api"
	"veilstone/printer"
	"veilstone/query"
	"veilstone/reply"
	"veilstone/store"
)

// Print prints operations as a script.
func Print(l []api.Op) (b []byte, e api.Errno) {
	for _, o := range l {
		text, ok := textOf(o)
		if !ok {
			return nil, api.ErrCommand
		}
		b = append(b, text...)
	}
	if len(b) > api.MaxSource {
		return nil, api.ErrLimit
	}
	return b, api.OK
}

// textOf returns the text of an operation; ok is false if it is not representable.
func textOf(o api.Op) (text []byte, ok bool) {
	w := &writer{}
	w.operation(o)
	if w.failed {
		return nil, false
	}
	l, _, e := Parse(w.text)
	return w.text, e == api.OK && len(l) == 1 && same(o, l[0])
}

// same reports whether two operations are equal in all fields.
func same(a, b api.Op) bool {
	r, s := a.Request, b.Request
	return a.Kind == b.Kind && a.Name == b.Name && a.Version == b.Version && a.Other == b.Other && a.Message == b.Message &&
		a.N == b.N && a.Tear == b.Tear && r.Kind == s.Kind && r.Reader == s.Reader && r.Version == s.Version && r.Other == s.Other &&
		store.Same(lists(a), lists(b))
}

// lists returns a state that consists of those parts of an operation that contain lists.
func lists(o api.Op) api.State {
	return api.State{
		Bases:      []api.Base{{Axioms: o.More}, {Axioms: o.Less}},
		Policies:   []api.Policy{o.Policy, {Secrets: []api.Query{o.Request.Query}}},
		Alignments: []api.Alignment{o.Alignment},
		Others:     []api.Other{o.Vocabulary},
	}
}

// writer collects the text of an operation.
type writer struct {
	text   []byte
	failed bool // whether a part could not be printed
}

// line writes words as a line; the last one is left out if it is empty, with the space before it.
func (w *writer) line(words ...string) {
	for i, s := range words {
		if i > 0 && (s != "" || i < len(words)-1) {
			w.text = append(w.text, ' ')
		}
		w.text = append(w.text, s...)
	}
	w.text = append(w.text, '\n')
}

func (w *writer) axioms(word string, l []api.Axiom) {
	for _, a := range l {
		text, e := printer.Axiom(a)
		w.failed = w.failed || e != api.OK
		w.line(word, text)
	}
}

func (w *writer) end() { w.line(endLine) }

func label(s string) string {
	if s == "" {
		return noLabel
	}
	return s
}

func hex(d api.Digest) string {
	const digits = "0123456789abcdef"
	var b []byte
	for _, x := range d {
		b = append(b, digits[x>>4], digits[x&15])
	}
	return string(b)
}

func (w *writer) operation(o api.Op) {
	switch o.Kind {
	case api.CommitO:
		w.line("commit", o.Name, o.Message)
		w.axioms("+", o.More)
		w.axioms("-", o.Less)
		w.end()
	case api.BranchO:
		w.line("branch", o.Name, o.Version)
	case api.TagO:
		w.line("tag", o.Name, o.Version)
	case api.MergeO:
		w.line("merge", o.Name, o.Version, o.Message)
	case api.PutO:
		w.line("put", o.Name, label(o.Version), label(o.Other), o.Message)
		w.axioms("+", o.More)
		w.end()
	case api.PolicyO:
		w.policy(o.Policy)
	case api.AskO:
		text, e := reply.PrintRequest(o.Request)
		w.failed = e != api.OK
		w.line("request")
		w.line(string(text))
	case api.OtherO:
		w.other(o.Vocabulary)
	case api.AlignO:
		w.line("align", o.Name, o.Other, o.Alignment.Name)
		w.alignment(o.Alignment)
	case api.CarryO:
		w.line("carry", o.Name, o.Other, o.Message)
	case api.CrashO:
		w.line("crash", strconv.Itoa(o.N), strconv.Itoa(o.Tear))
	case api.RepairO:
		w.line("repair", o.Name, o.Message)
	default:
		w.failed = true
	}
}

func (w *writer) policy(p api.Policy) {
	w.line("policy", p.Reader)
	for _, q := range p.Secrets {
		text, e := query.Print(q)
		w.failed = w.failed || e != api.OK
		w.line("secret", string(text))
	}
	w.end()
}

func (w *writer) other(o api.Other) {
	w.line("publish", o.Name, strconv.Itoa(o.No))
	w.axioms("+", o.Base.Axioms)
	for _, r := range o.Renamings {
		if r.Kind < api.ConceptN || r.Kind > api.IndividualN {
			w.failed = true
			return
		}
		w.line("rename", kinds[r.Kind], r.Old, r.New)
	}
	w.end()
}

func (w *writer) alignment(a api.Alignment) {
	w.line("base", hex(a.Base))
	w.line("public", hex(a.Public))
	w.line("index", strconv.Itoa(a.Sig.Index))
	for _, d := range a.Sig.Parts {
		w.line("part", hex(d))
	}
	for _, d := range a.Sig.Path {
		w.line("path", hex(d))
	}
	w.axioms("+", a.Axioms)
	w.end()
}
