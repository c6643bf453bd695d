package signing_test

import (
	"bytes"
	"math/rand"
	"reflect"
	"slices"
	"testing"

	"veilstone/api"
	"veilstone/digest"
	"veilstone/signing"
)

// P32.1
func TestNew(t *testing.T) {
	for _, x := range []struct {
		seed []byte
		many int
		e    api.Errno
	}{{[]byte{1}, 1, api.OK}, {make([]byte, 64), 256, api.OK}, {nil, 1, api.ErrKey}, {make([]byte, 65), 1, api.ErrKey}, {[]byte{1}, 0, api.ErrKey}, {[]byte{1}, 257, api.ErrKey}, {[]byte{1}, -1, api.ErrKey}} {
		k, e := signing.New(x.seed, x.many)
		want := api.Key{Seed: x.seed, Many: x.many}
		if e != api.OK {
			want = api.Key{}
		}
		if e != x.e || !reflect.DeepEqual(k, want) {
			t.Error(x, k, e)
		}
	}
}

// value is a value of a chain by its definition.
func value(seed []byte, i, j, n int) api.Digest {
	if n == 0 {
		return digest.Tagged("secret", append(slices.Clone(seed), byte(i), byte(j)))
	}
	d := value(seed, i, j, n-1)
	return digest.Tagged("chain", append([]byte{byte(i), byte(j), byte(n - 1)}, d[:]...))
}

// oneTime returns the one-time public keys by their definition.
func oneTime(k api.Key) (l []api.Digest) {
	for i := range k.Many {
		var b []byte
		for j := range 67 {
			d := value(k.Seed, i, j, 15)
			b = append(b, d[:]...)
		}
		l = append(l, digest.Tagged("one", b))
	}
	return l
}

// P32.1
func TestPublic(t *testing.T) {
	for _, many := range []int{1, 2, 5} {
		k := api.Key{Seed: []byte("seed"), Many: many, Used: 1}
		if d, e := signing.Public(k); e != api.OK || d != digest.Tree(oneTime(k)) {
			t.Error(many, e)
		}
	}
	for _, k := range []api.Key{{}, {Seed: []byte{1}, Many: 1, Used: 2}, {Seed: []byte{1}, Many: 1, Used: -1}, {Seed: make([]byte, 65), Many: 1}, {Seed: []byte{1}, Many: 257}, {Seed: []byte{1}}} {
		if d, e := signing.Public(k); e != api.ErrKey || d != (api.Digest{}) {
			t.Error(k, e)
		}
		if x, s, e := signing.Sign(k, make([]byte, api.MaxSource+1)); e != api.ErrKey || s.Parts != nil || x.Seed != nil {
			t.Error(k, e)
		}
	}
}

// P32.1
func TestDigits(t *testing.T) {
	if l := signing.Digits(api.Digest{}); !slices.Equal(l, append(make([]int, 64), 3, 12, 0)) {
		t.Error(l)
	}
	var d api.Digest
	for i := range d {
		d[i] = 255
	}
	if l := signing.Digits(d); !slices.Equal(l, append(slices.Repeat([]int{15}, 64), 0, 0, 0)) {
		t.Error(l)
	}
	if l := signing.Digits(api.Digest{0x12, 0xf0}); !slices.Equal(l[:5], []int{1, 2, 15, 0, 0}) || len(l) != 67 {
		t.Error(l)
	}
}

// P32.2 and P32.3
func TestSign(t *testing.T) {
	k, _ := signing.New([]byte("a seed"), 3)
	public, _ := signing.Public(k)
	all := oneTime(k)
	used := map[int]bool{}
	for i := range 3 {
		msg := bytes.Repeat([]byte{byte(i)}, i*1000)
		x, s, e := signing.Sign(k, msg)
		if e != api.OK || x.Used != i+1 || x.Many != 3 || !bytes.Equal(x.Seed, k.Seed) || k.Used != i || s.Index != i || used[s.Index] {
			t.Fatal(x, s, e)
		}
		used[s.Index] = true
		hash := digest.Tagged("message", slices.Concat(public[:], []byte{byte(i)}, msg))
		for j, n := range signing.Digits(hash) {
			if s.Parts[j] != value(k.Seed, i, j, n) {
				t.Fatal("chain", j)
			}
		}
		if p, _ := digest.Path(all, i); !slices.Equal(p, s.Path) || len(s.Parts) != 67 {
			t.Fatal("path", i)
		}
		if !signing.Verify(public, 3, msg, s) {
			t.Fatal("not verified", i)
		}
		if after, _ := signing.Public(x); after != public {
			t.Fatal("the public key has changed")
		}
		k = x
	}
	if x, s, e := signing.Sign(k, nil); e != api.ErrKey || s.Parts != nil || x.Seed != nil {
		t.Error(e)
	}
	if x, s, e := signing.Sign(k, make([]byte, api.MaxSource+1)); e != api.ErrLimit || s.Parts != nil || x.Seed != nil {
		t.Error(e)
	}
	one, _ := signing.New([]byte("a seed"), 1)
	if _, _, e := signing.Sign(one, make([]byte, api.MaxSource)); e != api.OK {
		t.Error(e)
	}
}

// P32.3
func TestVerify(t *testing.T) {
	k, _ := signing.New([]byte("s"), 4)
	public, _ := signing.Public(k)
	k.Used = 2
	msg := []byte("message")
	_, good, _ := signing.Sign(k, msg)
	if !signing.Verify(public, 4, msg, good) {
		t.Fatal("not verified")
	}
	if signing.Verify(public, 3, msg, good) || signing.Verify(public, 0, msg, good) || signing.Verify(public, 257, msg, good) || signing.Verify(public, 5, msg, good) || signing.Verify(public, 4, []byte("massage"), good) || signing.Verify(api.Digest{1}, 4, msg, good) || signing.Verify(public, 4, make([]byte, api.MaxSource+1), good) || signing.Verify(public, 4, msg, api.Signature{}) {
		t.Error("verified with other arguments")
	}
	for i, spoil := range []func(s *api.Signature){
		func(s *api.Signature) { s.Index = 1 }, func(s *api.Signature) { s.Index = -1 }, func(s *api.Signature) { s.Index = 4 }, func(s *api.Signature) { s.Parts = s.Parts[:66] }, func(s *api.Signature) { s.Parts = append(s.Parts, api.Digest{}) }, func(s *api.Signature) { s.Parts[0][0] ^= 1 }, func(s *api.Signature) { s.Parts[66][31] ^= 128 }, func(s *api.Signature) { s.Path = s.Path[:1] }, func(s *api.Signature) { s.Path[0][5] ^= 4 }, func(s *api.Signature) { s.Path = nil },
	} {
		s := api.Signature{Index: good.Index, Parts: slices.Clone(good.Parts), Path: slices.Clone(good.Path)}
		spoil(&s)
		if signing.Verify(public, 4, msg, s) {
			t.Error(i)
		}
	}
}

// P32.4: the checksum falls when a digit grows.
func TestDigitsCompared(t *testing.T) {
	r := rand.New(rand.NewSource(1))
	for range 5000 {
		var a, b api.Digest
		r.Read(a[:])
		b = a
		for range r.Intn(3) {
			i := r.Intn(32)
			b[i] |= byte(r.Intn(256)) // no digit of a is greater
		}
		x, y := signing.Digits(a), signing.Digits(b)
		less := true
		for i := range x {
			less = less && x[i] <= y[i]
		}
		if less && a != b {
			t.Fatal(a, b)
		}
	}
}
