package alloc_test

import (
	"bytes"
	"math"
	"testing"

	"hayrick/alloc"
	"hayrick/api"
	"hayrick/disk"
)

// P10.1: what stands on a disk that was made, whatever stood there: and all of it for good.
func TestMake(t *testing.T) {
	for _, g := range all() {
		d, _ := disk.New(g.Blocks)
		for n := range g.Blocks {
			d.Write(n, filled(7))
		}
		ops := d.Ops()
		if e := alloc.Make(d, g); e != api.OK {
			t.Fatalf("Make(.., %v): %d", g, e)
		}
		p := newPlain(g)
		want := p.laid()
		for _, x := range p.groups {
			for n := x.table; n < x.data; n++ {
				want[n] = filled(0)
			}
		}
		// All of these are written, once each; and there is one flush.
		if d.Ops()-ops != len(want)+1 || len(d.Pending()) != 0 {
			t.Errorf("%v: steps of the disk: %d, want %d; pending: %d", g, d.Ops()-ops, len(want)+1, len(d.Pending()))
		}
		d.Crash(nil)
		for n := range g.Blocks {
			b, e := d.Read(n)
			w, ok := want[n]
			if !ok {
				w = filled(7) // the journal's, and data: Make has nothing to do with them
			}
			if e != api.OK || !bytes.Equal(b, w) {
				t.Fatalf("%v: block %d: %x %d, want %x", g, n, b, e, w)
			}
		}
	}
}

// P10.1: a disk that was used is empty again once it is made again, and may have another geometry then.
func TestMakeAgain(t *testing.T) {
	d, _ := disk.New(300)
	other := api.Geometry{Blocks: 300, PerGroup: 150, Inodes: 8, Journal: 100}
	for _, g := range []api.Geometry{example, other, example} {
		if e := alloc.Make(d, g); e != api.OK {
			t.Fatalf("Make(.., %v): %d", g, e)
		}
		r := on(t, d, g)
		r.same()
		r.blocks(0, 50)
		r.inode(0, true)
		r.same()
		r.home()
	}
}

// P10.1: EINVAL of a geometry that may not be, or that has another number of blocks than the disk; the disk stays as it was.
func TestMakeWrong(t *testing.T) {
	d, _ := disk.New(300)
	for n := range 300 {
		d.Write(n, filled(7))
	}
	ops := d.Ops()
	refused := func(d *disk.Disk, g api.Geometry) {
		t.Helper()
		if e := alloc.Make(d, g); e != api.EINVAL {
			t.Errorf("Make(%d blocks, %v): %d", d.Blocks(), g, e)
		}
	}
	for _, g := range []api.Geometry{example, {}} {
		refused(nil, g)
		refused(&disk.Disk{}, g)
	}
	for _, g := range []api.Geometry{
		{},
		{Blocks: 300, PerGroup: 200, Inodes: 16, Journal: 95},
		{Blocks: 300, PerGroup: 200, Inodes: 15, Journal: 96},
		{Blocks: 300, PerGroup: 108, Inodes: 16, Journal: 96},
		{Blocks: 300, PerGroup: 0, Inodes: 16, Journal: 96},
		{Blocks: 300, PerGroup: 200, Inodes: 16, Journal: math.MinInt},
		{Blocks: 300, PerGroup: math.MaxInt, Inodes: math.MaxInt, Journal: math.MaxInt},
		{Blocks: 299, PerGroup: 200, Inodes: 16, Journal: 96},
		{Blocks: 301, PerGroup: 200, Inodes: 16, Journal: 96},
		single, narrow, wide, full,
	} {
		refused(d, g)
	}
	if d.Ops() != ops {
		t.Errorf("steps of the disk: %d", d.Ops()-ops)
	}
}
