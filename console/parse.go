package console

import (
	"strconv"
	"strings"

	"veilstone/api"
	"veilstone/query"
	"veilstone/reply"
	"veilstone/syntax"
)

// maxDigits is the greatest number of digits of a number.
const maxDigits = 18

// Texts of scripts.
const (
	endLine = "end"
	noLabel = "-" // stands for an empty label
)

// kinds contains the word of each kind of names.
var kinds = [5]string{api.ConceptN: "concept", api.RoleN: "role", api.FeatureN: "feature", api.IndividualN: "individual"}

// parser reads lines.
type parser struct {
	lines []string
	at    int // how many lines have been read: the number of the last one
}

// fail says that the line that was read last is wrong.
func (p *parser) fail(e api.Errno) { panic(wrong{p.at, e}) }

func (p *parser) require(ok bool) {
	if !ok {
		p.fail(api.ErrCommand)
	}
}

// counting goes to the next line that counts; it reports whether there is one.
func (p *parser) counting() bool {
	for p.at < len(p.lines) && (p.lines[p.at] == "" || p.lines[p.at][0] == '#') {
		p.at++
	}
	return p.at < len(p.lines)
}

// next reads the next line that counts.
func (p *parser) next() string {
	if !p.counting() {
		panic(wrong{len(p.lines) + 1, api.ErrCommand})
	}
	p.at++
	return p.lines[p.at-1]
}

// command reads a command with its block.
func (p *parser) command() api.Op {
	readers := map[string]func(f *fields) api.Op{
		"commit": p.commit, "branch": p.branch, "tag": p.tag, "merge": p.merge, "put": p.put, "policy": p.policy,
		"request": p.request, "publish": p.publish, "align": p.align, "carry": p.carry, "crash": p.crash, "repair": p.repair,
	}
	f := &fields{parser: p, rest: p.next(), more: true}
	read := readers[f.any()]
	p.require(read != nil)
	return read(f)
}

// block reads the lines of a block; each of them is read by the function for its first word.
func (p *parser) block(lines map[string]func(f *fields)) {
	for {
		text := p.next()
		if text == endLine {
			return
		}
		f := &fields{parser: p, rest: text, more: true}
		read := lines[f.any()]
		p.require(read != nil)
		read(f)
	}
}

// fields reads the fields of a line.
type fields struct {
	*parser
	rest string
	more bool // whether there is a further field
}

// any reads a field, which may be empty.
func (f *fields) any() (s string) {
	f.require(f.more)
	s, f.rest, f.more = strings.Cut(f.rest, " ")
	return s
}

// word reads a field of visible characters.
func (f *fields) word() string {
	s := f.any()
	f.require(s != "")
	for i := range len(s) {
		f.require(s[i] >= 33 && s[i] <= 126)
	}
	return s
}

// label reads a label that may be missing.
func (f *fields) label() string {
	s := f.word()
	if s == noLabel {
		return ""
	}
	return s
}

func (f *fields) number() int {
	s := f.any()
	n, err := strconv.Atoi(s)
	f.require(err == nil && n >= 0 && strconv.Itoa(n) == s && len(s) <= maxDigits)
	return n
}

func (f *fields) digest() (d api.Digest) {
	const digits = "0123456789abcdef"
	s := f.any()
	f.require(len(s) == 2*len(d))
	for i := range len(s) {
		n := strings.IndexByte(digits, s[i])
		f.require(n >= 0)
		d[i/2] = d[i/2]<<4 | byte(n)
	}
	return d
}

// kind reads the word of a kind of names.
func (f *fields) kind() int {
	s := f.any()
	for kind, word := range kinds {
		if kind > 0 && s == word {
			return kind
		}
	}
	f.fail(api.ErrCommand)
	return 0
}

// message reads the rest of the line, which may be missing.
func (f *fields) message() string {
	f.more = false
	return f.rest
}

// last requires that the line ends.
func (f *fields) last() { f.require(!f.more) }

func (f *fields) axiom() api.Axiom {
	f.require(f.more)
	a, _, e := syntax.Axiom([]byte(f.rest))
	if e != api.OK {
		f.fail(e)
	}
	return a
}

func (f *fields) query() api.Query {
	f.require(f.more)
	q, _, e := query.Parse([]byte(f.rest))
	if e != api.OK {
		f.fail(e)
	}
	return q
}

// into returns the reader of a line whose axiom is added to a list.
func into(l *[]api.Axiom) func(f *fields) {
	return func(f *fields) { *l = append(*l, f.axiom()) }
}

func (p *parser) commit(f *fields) api.Op {
	o := api.Op{Kind: api.CommitO, Name: f.word(), Message: f.message()}
	p.block(map[string]func(f *fields){"+": into(&o.More), "-": into(&o.Less)})
	return o
}

func (p *parser) branch(f *fields) api.Op {
	o := api.Op{Kind: api.BranchO, Name: f.word(), Version: f.word()}
	f.last()
	return o
}

func (p *parser) tag(f *fields) api.Op {
	o := p.branch(f)
	o.Kind = api.TagO
	return o
}

func (p *parser) merge(f *fields) api.Op {
	return api.Op{Kind: api.MergeO, Name: f.word(), Version: f.word(), Message: f.message()}
}

func (p *parser) put(f *fields) api.Op {
	o := api.Op{Kind: api.PutO, Name: f.word(), Version: f.label(), Other: f.label(), Message: f.message()}
	p.block(map[string]func(f *fields){"+": into(&o.More)})
	return o
}

func (p *parser) policy(f *fields) api.Op {
	o := api.Op{Kind: api.PolicyO, Policy: api.Policy{Reader: f.word()}}
	f.last()
	p.block(map[string]func(f *fields){"secret": func(f *fields) {
		o.Policy.Secrets = append(o.Policy.Secrets, f.query())
	}})
	return o
}

// request reads the two lines of a request, which are not skipped whatever they are.
func (p *parser) request(f *fields) api.Op {
	f.last()
	p.require(p.at+2 <= len(p.lines))
	text := p.lines[p.at] + "\n" + p.lines[p.at+1]
	p.at++
	r, _, e := reply.ParseRequest([]byte(text))
	if e != api.OK {
		p.fail(e)
	}
	p.at++
	return api.Op{Kind: api.AskO, Request: r}
}

func (p *parser) publish(f *fields) api.Op {
	o := api.Op{Kind: api.OtherO, Vocabulary: api.Other{Name: f.word(), No: f.number()}}
	f.last()
	v := &o.Vocabulary
	p.block(map[string]func(f *fields){"+": into(&v.Base.Axioms), "rename": func(f *fields) {
		v.Renamings = append(v.Renamings, api.Renaming{Kind: f.kind(), Old: f.word(), New: f.word()})
		f.last()
	}})
	return o
}

func (p *parser) align(f *fields) api.Op {
	o := api.Op{Kind: api.AlignO, Name: f.word(), Other: f.word(), Alignment: api.Alignment{Name: f.word()}}
	f.last()
	a := &o.Alignment
	seen := map[string]bool{}
	// once reads a line of which there is at most one.
	once := func(word string, read func(f *fields)) func(f *fields) {
		return func(f *fields) {
			f.require(!seen[word])
			seen[word] = true
			read(f)
			f.last()
		}
	}
	digests := func(l *[]api.Digest) func(f *fields) {
		return func(f *fields) {
			*l = append(*l, f.digest())
			f.last()
		}
	}
	p.block(map[string]func(f *fields){
		"base":   once("base", func(f *fields) { a.Base = f.digest() }),
		"public": once("public", func(f *fields) { a.Public = f.digest() }),
		"index":  once("index", func(f *fields) { a.Sig.Index = f.number() }),
		"part":   digests(&a.Sig.Parts), "path": digests(&a.Sig.Path), "+": into(&a.Axioms),
	})
	return o
}

func (p *parser) carry(f *fields) api.Op {
	return api.Op{Kind: api.CarryO, Name: f.word(), Other: f.word(), Message: f.message()}
}

func (p *parser) crash(f *fields) api.Op {
	o := api.Op{Kind: api.CrashO, N: f.number(), Tear: f.number()}
	f.last()
	return o
}

func (p *parser) repair(f *fields) api.Op {
	return api.Op{Kind: api.RepairO, Name: f.word(), Message: f.message()}
}
