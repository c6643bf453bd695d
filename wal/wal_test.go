package wal_test

import (
	"bytes"
	"hash/crc32"
	"math"
	"math/rand"
	"reflect"
	"slices"
	"testing"

	"veilstone/api"
	"veilstone/disk"
	"veilstone/wal"
)

// P42.1
func TestSum(t *testing.T) {
	if wal.Sum(nil) != 0 || wal.Sum([]byte("123456789")) != 3421780262 {
		t.Error("the examples")
	}
	r := rand.New(rand.NewSource(1))
	for n := range 200 {
		b := make([]byte, n)
		r.Read(b)
		if wal.Sum(b) != crc32.ChecksumIEEE(b) {
			t.Error(n)
		}
	}
}

// sector makes a sector by hand.
func sector(generation uint32, number, flags int, data []byte) []byte {
	b := make([]byte, 128)
	put := func(at int, n uint32) { copy(b[at:], []byte{byte(n >> 24), byte(n >> 16), byte(n >> 8), byte(n)}) }
	put(0, generation)
	put(124, generation)
	b[8], b[9], b[10], b[11] = byte(number>>8), byte(number), byte(flags), byte(len(data))
	copy(b[12:124], data)
	put(4, crc32.ChecksumIEEE(b[8:124]))
	return b
}

// on makes a disk of sectors, and an empty one behind them.
func on(l ...[]byte) api.Disk {
	return api.Disk{Sectors: append(slices.Clone(l), make([]byte, 128)), Left: -1}
}

func text(l [][]byte) []string {
	var s []string
	for _, r := range l {
		s = append(s, string(r))
	}
	return s
}

// P42.1
func TestOpen(t *testing.T) {
	full := bytes.Repeat([]byte("x"), 112)
	a, b := sector(1, 0, 3, []byte("a")), sector(1, 1, 3, nil)
	spoilt := func(s []byte, at int) []byte {
		s = slices.Clone(s)
		s[at] ^= 1
		return s
	}
	for k, x := range []struct {
		d    api.Disk
		want []string
	}{
		{on(), nil}, {on(a), []string{"a"}}, {on(a, b), []string{"a", ""}}, {on(a, spoilt(b, 0)), []string{"a"}}, {on(spoilt(a, 127), b), nil}, {on(spoilt(a, 5), b), nil}, {on(spoilt(a, 12), b), nil}, {on(spoilt(a, 60), b), nil}, {on(sector(0, 0, 3, nil)), nil}, {on(sector(1, 1, 3, nil)), nil}, {on(sector(1, 0, 4, nil)), nil}, {on(sector(1, 0, 7, nil)), nil}, {on(sector(1, 0, 2, []byte("a"))), nil}, {on(a, sector(1, 1, 2, []byte("b"))), []string{"a"}},
		{on(sector(1, 0, 1, full), sector(1, 1, 2, []byte("b"))), []string{string(full) + "b"}}, {on(sector(1, 0, 1, full), sector(1, 1, 0, full), sector(1, 2, 2, full)), []string{string(full) + string(full) + string(full)}}, {on(sector(1, 0, 1, full), sector(1, 1, 2, nil)), nil}, {on(sector(1, 0, 1, full[:111]), sector(1, 1, 2, []byte("b"))), nil}, {on(sector(1, 0, 1, full), sector(2, 1, 2, []byte("b"))), nil}, {on(sector(1, 0, 1, full), sector(1, 1, 3, []byte("b"))), nil}, {on(sector(1, 0, 1, full)), nil}, {on(sector(1, 0, 3, full), sector(2, 1, 3, []byte("b"))), []string{string(full), "b"}}, {on(sector(2, 0, 3, full), sector(1, 1, 3, []byte("b"))), []string{string(full)}}, {on(a, sector(5, 1, 3, nil), sector(4, 2, 3, nil)), []string{"a", ""}},
	} {
		l, e := wal.Open(x.d, 0, len(x.d.Sectors))
		if want := (api.Log{Many: len(x.d.Sectors), Records: l.Records, Synced: len(x.want)}); e != api.OK || !slices.Equal(text(l.Records), x.want) || !reflect.DeepEqual(l, want) {
			t.Errorf("case %d: %q, %d", k, text(l.Records), e)
		}
	}
	// Bytes behind the data, and a size that is too great.
	long := sector(1, 0, 3, []byte("a"))
	long[50] = 7
	long = append(sum(long[:8:8], long), long[8:]...)
	if l, _ := wal.Open(on(long), 0, 1); len(l.Records) != 0 {
		t.Error("bytes behind the data")
	}
	great := sector(1, 0, 3, full)
	great[11] = 113
	great = append(sum(great[:8:8], great), great[8:]...)
	if l, _ := wal.Open(on(great), 0, 1); len(l.Records) != 0 {
		t.Error("113 bytes")
	}
	d := on(a, sector(1, 0, 3, []byte("z")), b)
	if l, e := wal.Open(d, 1, 2); e != api.OK || !slices.Equal(text(l.Records), []string{"z", ""}) || l.First != 1 {
		t.Error(l, e)
	}
	if l, e := wal.Open(on(a, b), 0, 1); e != api.OK || len(l.Records) != 1 {
		t.Error(l, e)
	}
	for k, x := range []struct {
		d           api.Disk
		first, many int
		e           api.Errno
	}{{api.Disk{}, 0, 1, api.ErrArg}, {on(), 0, 0, api.ErrArg}, {on(), -1, 1, api.ErrArg}, {on(), 0, 2, api.ErrArg}, {on(), 1, 1, api.ErrArg}, {on(), math.MaxInt, math.MaxInt, api.ErrArg}, {on(), 0, math.MaxInt, api.ErrArg}, {api.Disk{Sectors: on().Sectors, Stopped: true}, 0, 1, api.ErrDisk}, {api.Disk{Sectors: on().Sectors, Stopped: true}, 0, 2, api.ErrArg}} {
		if l, e := wal.Open(x.d, x.first, x.many); e != x.e || l.Many != 0 {
			t.Error(k, e)
		}
	}
}

// sum returns the first eight bytes of a sector with a new checksum.
func sum(head, s []byte) []byte {
	n := crc32.ChecksumIEEE(s[8:124])
	return append(head[:4:4], byte(n>>24), byte(n>>16), byte(n>>8), byte(n))
}

// P42.2
func TestCheckRoomAppend(t *testing.T) {
	record := func(n int) []byte { return make([]byte, n) }
	for k, x := range []struct {
		l    api.Log
		e    api.Errno
		room int
	}{
		{api.Log{Many: 1}, api.OK, 112}, {api.Log{}, api.ErrArg, 0}, {api.Log{First: -1, Many: 1}, api.ErrArg, 0}, {api.Log{First: 4095, Many: 1}, api.OK, 112}, {api.Log{First: 4096, Many: 1}, api.ErrArg, 0}, {api.Log{First: 4095, Many: 2}, api.ErrArg, 0}, {api.Log{First: math.MaxInt, Many: math.MaxInt}, api.ErrArg, 0}, {api.Log{Many: 4096}, api.OK, 65536}, {api.Log{Many: 586}, api.OK, 65536}, {api.Log{Many: 585}, api.OK, 65520}, {api.Log{Many: 3, Records: [][]byte{record(0), record(112)}}, api.OK, 112}, {api.Log{Many: 3, Records: [][]byte{record(1), record(113)}}, api.OK, 0}, {api.Log{Many: 2, Records: [][]byte{record(1), record(113)}}, api.ErrArg, 0}, {api.Log{Many: 4096, Records: [][]byte{record(65536)}}, api.OK, 65536}, {api.Log{Many: 4096, Records: [][]byte{record(65537)}}, api.ErrArg, 0}, {api.Log{Many: 9, Records: [][]byte{record(1)}, Synced: 2}, api.ErrArg, 0}, {api.Log{Many: 9, Synced: -1}, api.ErrArg, 0},
	} {
		if e := wal.Check(x.l); e != x.e {
			t.Error(k, e)
		}
		if n := wal.Room(x.l); n != x.room {
			t.Error(k, n)
		}
		for _, n := range []int{x.room, x.room + 1} {
			y, e := wal.Append(x.l, record(n))
			want := x.e
			if e := wal.Check(api.Log{First: x.l.First, Many: x.l.Many, Records: append(slices.Clip(x.l.Records), record(n)), Synced: x.l.Synced}); want == api.OK && e != api.OK {
				want = api.ErrLimit
			}
			if e != want || e == api.OK && (len(y.Records) != len(x.l.Records)+1 || y.Synced != x.l.Synced) || e != api.OK && y.Records != nil {
				t.Error(k, n, e, want)
			}
			if (n > x.room || x.room == 0) && e == api.OK {
				t.Error(k, n, "is too long")
			}
		}
	}
}

// P42.3
func TestSync(t *testing.T) {
	d, _ := disk.New(8)
	l, _ := wal.Open(d, 1, 6)
	full := bytes.Repeat([]byte("x"), 112)
	for _, r := range []string{"a", "", string(full) + "y"} {
		l, _ = wal.Append(l, []byte(r))
	}
	l, d, e := wal.Sync(l, d)
	want := [][]byte{make([]byte, 128), sector(1, 0, 3, []byte("a")), sector(1, 1, 3, nil), sector(1, 2, 1, full), sector(1, 3, 2, []byte("y")), make([]byte, 128), make([]byte, 128), make([]byte, 128)}
	if e != api.OK || l.Synced != 3 || !reflect.DeepEqual(d.Sectors, want) || d.Left != -1 {
		t.Fatal(l, e)
	}
	same, d2, e := wal.Sync(l, d)
	if e != api.OK || !reflect.DeepEqual(same, l) || !reflect.DeepEqual(d2, d) {
		t.Error("nothing to write", e)
	}
	l, _ = wal.Append(l, []byte("z"))
	d.Sectors = slices.Clone(d.Sectors)
	d.Sectors[6] = sector(41, 3, 9, nil)
	l, d, e = wal.Sync(l, d)
	if e != api.OK || !reflect.DeepEqual(d.Sectors[5], sector(42, 4, 3, []byte("z"))) {
		t.Error(e)
	}
	more, _ := wal.Append(l, []byte("q"))
	torn := slices.Clone(d.Sectors)
	torn[2] = make([]byte, 128)
	high := slices.Clone(d.Sectors)
	high[6] = bytes.Repeat([]byte{255}, 128)
	tail := slices.Clone(d.Sectors)
	tail[6] = append(make([]byte, 124), 255, 255, 255, 254)
	for k, x := range []struct {
		l api.Log
		d api.Disk
		e api.Errno
	}{
		{api.Log{}, api.Disk{}, api.ErrArg}, {l, api.Disk{}, api.ErrArg}, {l, api.Disk{Sectors: d.Sectors[:6], Left: -1}, api.ErrArg}, {l, api.Disk{Sectors: d.Sectors[:6], Stopped: true}, api.ErrArg}, {l, api.Disk{Sectors: d.Sectors, Stopped: true}, api.ErrDisk}, {l, api.Disk{Sectors: torn, Left: -1}, api.ErrLog}, {api.Log{First: 1, Many: 6, Records: l.Records, Synced: 3}, d, api.ErrLog}, {api.Log{First: 1, Many: 6, Records: l.Records[:3], Synced: 3}, d, api.ErrLog}, {l, api.Disk{Sectors: high, Left: -1}, api.ErrLog}, {more, api.Disk{Sectors: high, Left: -1}, api.ErrLog}, {more, api.Disk{Sectors: tail, Left: -1}, api.OK},
	} {
		y, z, e := wal.Sync(x.l, x.d)
		if e != x.e || e != api.OK && (y.Many != 0 || z.Sectors != nil) {
			t.Error(k, e)
		}
		if e == api.OK && !bytes.Equal(z.Sectors[6][:4], []byte{255, 255, 255, 255}) {
			t.Error(z.Sectors[6])
		}
	}
}

// P42.3 and P42.4: crashes after any number of writes and bytes, one after the other.
func TestCrashes(t *testing.T) {
	r := rand.New(rand.NewSource(1))
	crashes := 0
	for range 400 {
		d, _ := disk.New(34)
		d.Sectors[0][5], d.Sectors[33][7] = 1, 2
		l, _ := wal.Open(d, 1, 32)
		for range 12 {
			before := l
			for range r.Intn(4) {
				b := make([]byte, r.Intn(3)*r.Intn(150))
				r.Read(b)
				if x, e := wal.Append(l, b); e == api.OK {
					l = x
				}
			}
			d, _ = disk.Stop(d, r.Intn(7), r.Intn(129))
			x, y, e := wal.Sync(l, d)
			switch e {
			case api.OK:
				d, l = disk.Restart(y), x
			case api.ErrDisk:
				crashes++
				if x.Many != 0 || !y.Stopped {
					t.Fatal(x)
				}
				d = disk.Restart(y)
			default:
				t.Fatal(e)
			}
			again, e2 := wal.Open(d, 1, 32)
			n := len(again.Records)
			if e2 != api.OK || n < before.Synced || n > len(l.Records) || e == api.OK && n != len(l.Records) || !slices.EqualFunc(again.Records, l.Records[:n], bytes.Equal) {
				t.Fatal(e, e2, n, before.Synced, len(l.Records))
			}
			if d.Sectors[0][5] != 1 || d.Sectors[33][7] != 2 {
				t.Fatal("a sector outside of the log")
			}
			l = again
		}
	}
	if crashes < 500 {
		t.Error(crashes)
	}
}
