package disk_test

import (
	"bytes"
	"math"
	"math/rand"
	"reflect"
	"slices"
	"testing"

	"veilstone/api"
	"veilstone/disk"
)

func sector(b byte) []byte { return bytes.Repeat([]byte{b}, 128) }

func sectors(n int) (l [][]byte) {
	for i := range n {
		l = append(l, sector(byte(i)))
	}
	return l
}

// P41.1
func TestNewCheck(t *testing.T) {
	for n, want := range map[int]api.Errno{0: api.ErrArg, -1: api.ErrArg, 1: api.OK, 4096: api.OK, 4097: api.ErrArg, math.MinInt: api.ErrArg} {
		d, e := disk.New(n)
		if e != want || e != api.OK && !reflect.DeepEqual(d, api.Disk{}) {
			t.Error(n, e)
		}
		if e == api.OK && (len(d.Sectors) != n || d.Left != -1 || d.Tear != 0 || d.Stopped || !bytes.Equal(d.Sectors[n-1], sector(0)) || disk.Check(d) != api.OK) {
			t.Error(n, d.Left)
		}
	}
	odd := sectors(3)
	odd[1] = odd[1][:127]
	for k, x := range []struct {
		d api.Disk
		e api.Errno
	}{{api.Disk{}, api.ErrArg}, {api.Disk{Sectors: sectors(1)}, api.OK}, {api.Disk{Sectors: sectors(4096), Left: -1, Tear: 128}, api.OK}, {api.Disk{Sectors: sectors(4097)}, api.ErrArg}, {api.Disk{Sectors: odd}, api.ErrArg}, {api.Disk{Sectors: [][]byte{append(sector(0), 0)}}, api.ErrArg}, {api.Disk{Sectors: sectors(1), Left: -2}, api.ErrArg}, {api.Disk{Sectors: sectors(1), Tear: -1}, api.ErrArg}, {api.Disk{Sectors: sectors(1), Tear: 129}, api.ErrArg}, {api.Disk{Sectors: sectors(1), Stopped: true}, api.OK}, {api.Disk{Sectors: sectors(1), Stopped: true, Left: -1}, api.ErrArg}, {api.Disk{Sectors: sectors(1), Stopped: true, Left: 1}, api.ErrArg}} {
		if e := disk.Check(x.d); e != x.e {
			t.Error(k, e)
		}
	}
}

// P41.2
func TestReadWrite(t *testing.T) {
	d := api.Disk{Sectors: sectors(3), Left: 2, Tear: 3}
	x, e := disk.Write(d, 1, sector(9))
	if want := (api.Disk{Sectors: [][]byte{sector(0), sector(9), sector(2)}, Left: 1, Tear: 3}); e != api.OK || !reflect.DeepEqual(x, want) || !bytes.Equal(d.Sectors[1], sector(1)) {
		t.Error(x, e)
	}
	x, _ = disk.Write(x, 1, sector(8))
	y, e := disk.Write(x, 2, sector(7))
	torn := append(sector(7)[:3:3], sector(2)[3:]...)
	if want := (api.Disk{Sectors: [][]byte{sector(0), sector(8), torn}, Tear: 3, Stopped: true}); e != api.ErrDisk || !reflect.DeepEqual(y, want) {
		t.Error(y, e)
	}
	if z, e := disk.Write(y, 0, sector(5)); e != api.ErrDisk || !reflect.DeepEqual(z, y) {
		t.Error(z, e)
	}
	if b, e := disk.Read(y, 0); e != api.ErrDisk || b != nil {
		t.Error(e)
	}
	b, e := disk.Read(x, 1)
	if e != api.OK || !bytes.Equal(b, sector(8)) {
		t.Error(b, e)
	}
	b[0] = 77
	if c, _ := disk.Read(x, 1); c[0] != 8 {
		t.Error("the disk has changed")
	}
	endless := api.Disk{Sectors: sectors(2), Left: -1}
	if x, e := disk.Write(endless, 0, sector(1)); e != api.OK || x.Left != -1 {
		t.Error(e)
	}
	for k, v := range []struct {
		d  api.Disk
		at int
		b  []byte
		e  api.Errno
	}{{api.Disk{}, 0, sector(1), api.ErrArg}, {d, 3, sector(1), api.ErrArg}, {d, -1, sector(1), api.ErrArg}, {d, 0, sector(1)[:127], api.ErrArg}, {d, 0, append(sector(1), 1), api.ErrArg}, {y, 0, nil, api.ErrArg}, {y, 7, sector(1), api.ErrArg}} {
		if z, e := disk.Write(v.d, v.at, v.b); e != v.e || z.Sectors != nil {
			t.Error(k, e)
		}
	}
	for _, at := range []int{-1, 3, math.MaxInt} {
		if b, e := disk.Read(y, at); e != api.ErrArg || b != nil {
			t.Error(at, e)
		}
	}
	if _, e := disk.Read(api.Disk{}, 0); e != api.ErrArg {
		t.Error(e)
	}
}

// P41.3
func TestStopRestart(t *testing.T) {
	d, _ := disk.New(2)
	for _, x := range []struct {
		left, tear int
		e          api.Errno
	}{{-1, 0, api.OK}, {0, 128, api.OK}, {5, 7, api.OK}, {-2, 0, api.ErrArg}, {0, -1, api.ErrArg}, {0, 129, api.ErrArg}} {
		y, e := disk.Stop(d, x.left, x.tear)
		if e != x.e || e == api.OK && (y.Left != x.left || y.Tear != x.tear || len(y.Sectors) != 2) || e != api.OK && y.Sectors != nil {
			t.Error(x, e)
		}
	}
	stopped := api.Disk{Sectors: sectors(2), Tear: 5, Stopped: true}
	if y, e := disk.Stop(stopped, 1, 1); e != api.ErrDisk || y.Sectors != nil {
		t.Error(e)
	}
	if y, e := disk.Stop(stopped, -2, 1); e != api.ErrArg || y.Sectors != nil {
		t.Error(e)
	}
	if y, e := disk.Stop(api.Disk{}, -2, 1); e != api.ErrArg || y.Sectors != nil {
		t.Error(e)
	}
	if y := disk.Restart(stopped); !reflect.DeepEqual(y, api.Disk{Sectors: sectors(2), Left: -1}) {
		t.Error(y)
	}
	if y := disk.Restart(api.Disk{Left: 77, Tear: -5, Stopped: true}); !reflect.DeepEqual(y, api.Disk{Left: -1}) {
		t.Error(y)
	}
}

// P41.4
func TestConsequences(t *testing.T) {
	r := rand.New(rand.NewSource(1))
	for range 300 {
		n, tear := r.Intn(5), r.Intn(129)
		d, _ := disk.Stop(api.Disk{Sectors: sectors(4), Left: -1}, n, tear)
		now := sectors(4)
		for i := range 8 {
			at, b := r.Intn(4), sector(byte(100+i))
			x, e := disk.Write(d, at, b)
			switch {
			case i < n:
				now[at] = b
				if got, _ := disk.Read(x, at); e != api.OK || !bytes.Equal(got, b) {
					t.Fatal(i, e)
				}
			case i == n:
				now[at] = slices.Concat(b[:tear], now[at][tear:])
			}
			if (e == api.OK) != (i < n) || !reflect.DeepEqual(x.Sectors, now) {
				t.Fatal(i, n, e)
			}
			d = x
		}
		if !reflect.DeepEqual(disk.Restart(d).Sectors, now) {
			t.Fatal("Restart")
		}
	}
}
