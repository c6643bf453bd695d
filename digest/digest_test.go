package digest_test

import (
	"bytes"
	"crypto/sha256"
	"math"
	"math/rand"
	"testing"

	"veilstone/api"
	"veilstone/digest"
)

// P27.1
func TestSum(t *testing.T) {
	if d := digest.Sum([]byte("abc")); !bytes.Equal(d[:4], []byte{0xba, 0x78, 0x16, 0xbf}) {
		t.Error(d)
	}
	if d := digest.Sum(nil); !bytes.Equal(d[:4], []byte{0xe3, 0xb0, 0xc4, 0x42}) {
		t.Error(d)
	}
	r := rand.New(rand.NewSource(1))
	for n := range 300 {
		b := make([]byte, n)
		r.Read(b)
		if d := digest.Sum(b); d != sha256.Sum256(b) {
			t.Fatal(n, d)
		}
	}
	long := make([]byte, 1<<20+7)
	r.Read(long)
	if digest.Sum(long) != sha256.Sum256(long) {
		t.Error("a long message")
	}
}

// tagged is Tagged by its definition.
func tagged(tag string, b []byte) api.Digest {
	t := sha256.Sum256([]byte(tag))
	return sha256.Sum256(append(t[:], b...))
}

// P27.1
func TestTagged(t *testing.T) {
	for _, x := range []struct {
		tag string
		b   []byte
	}{{"", nil}, {"leaf", []byte{1, 2}}, {"x", make([]byte, 100)}} {
		if digest.Tagged(x.tag, x.b) != tagged(x.tag, x.b) {
			t.Error(x.tag)
		}
	}
	empty := digest.Sum(nil)
	if digest.Tagged("", nil) != digest.Sum(empty[:]) || digest.Tagged("ab", []byte("c")) == digest.Tagged("a", []byte("bc")) {
		t.Error("the empty tag")
	}
}

// tree and path are by their definitions.
func tree(l []api.Digest) api.Digest {
	switch len(l) {
	case 0:
		return tagged("empty", nil)
	case 1:
		return tagged("leaf", l[0][:])
	}
	k := 1
	for 2*k < len(l) {
		k *= 2
	}
	x, y := tree(l[:k]), tree(l[k:])
	return tagged("node", append(x[:], y[:]...))
}

func path(l []api.Digest, at int) []api.Digest {
	if len(l) == 1 {
		return nil
	}
	k := 1
	for 2*k < len(l) {
		k *= 2
	}
	if at < k {
		return append(path(l[:k], at), tree(l[k:]))
	}
	return append(path(l[k:], at-k), tree(l[:k]))
}

// P27.2 and P27.3
func TestTree(t *testing.T) {
	r := rand.New(rand.NewSource(1))
	var l []api.Digest
	for n := range 40 {
		if digest.Tree(l) != tree(l) {
			t.Fatal(n)
		}
		for at := range l {
			p, e := digest.Path(l, at)
			want := path(l, at)
			if e != api.OK || len(p) != len(want) {
				t.Fatal(n, at, e)
			}
			for i := range p {
				if p[i] != want[i] {
					t.Fatal(n, at, i)
				}
			}
			if d, e := digest.Climb(l[at], at, n, p); e != api.OK || d != digest.Tree(l) {
				t.Fatal(n, at, e)
			}
			if _, e := digest.Climb(l[at], at, n, append(p, api.Digest{})); e != api.ErrArg {
				t.Fatal(n, at, e)
			}
			if len(p) > 0 {
				if d, e := digest.Climb(l[at], at, n, p[1:]); e != api.ErrArg || d != (api.Digest{}) {
					t.Fatal(n, at, e)
				}
			}
		}
		var d api.Digest
		r.Read(d[:])
		l = append(l, d)
	}
}

// P27.2
func TestErrors(t *testing.T) {
	one := []api.Digest{{1}}
	for _, x := range []struct {
		l  []api.Digest
		at int
		e  api.Errno
	}{{nil, 0, api.ErrArg}, {one, 0, api.OK}, {one, 1, api.ErrArg}, {one, -1, api.ErrArg}, {one, math.MinInt, api.ErrArg}} {
		if p, e := digest.Path(x.l, x.at); e != x.e || len(p) != 0 {
			t.Error(x, p, e)
		}
	}
	long := make([]api.Digest, 40)
	for _, x := range []struct {
		at, n int
		p     []api.Digest
		e     api.Errno
	}{{0, 1, nil, api.OK}, {0, 2, nil, api.ErrArg}, {0, 0, nil, api.ErrArg}, {1, 1, nil, api.ErrArg}, {-1, 1, nil, api.ErrArg}, {0, -1, nil, api.ErrArg}, {0, 1 << 40, long, api.OK}, {1<<40 - 1, 1 << 40, long, api.OK}, {0, 1<<40 + 1, make([]api.Digest, 41), api.ErrArg}, {2, 3, make([]api.Digest, 1), api.OK}, {2, 3, make([]api.Digest, 2), api.ErrArg}, {1, 3, make([]api.Digest, 2), api.OK}, {math.MaxInt - 1, math.MaxInt, long, api.ErrArg}, {1<<39 + 4, 1<<39 + 5, make([]api.Digest, 2), api.OK}} {
		if _, e := digest.Climb(api.Digest{7}, x.at, x.n, x.p); e != x.e {
			t.Error(x.at, x.n, len(x.p), e)
		}
	}
	if d, e := digest.Climb(api.Digest{7}, 0, 1, nil); e != api.OK || d != digest.Tree([]api.Digest{{7}}) {
		t.Error(e)
	}
}
