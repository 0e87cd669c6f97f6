package strata

import (
	"testing"

	"strata/api"
)

// wantsOnDisk fails the test if something else stands in a picture's room.
func wantsOnDisk(t *testing.T, p *Pool, name string, want ...api.Block) {
	t.Helper()
	v, e := p.find(name)
	if e != api.OK || len(v.blocks) != len(want) {
		t.Fatalf("room of %s: %d", name, e)
	}
	for k, n := range v.blocks {
		if got := p.disk.Read(n); got != want[k] {
			t.Errorf("block %d of the room of %s holds %v, want %v", k, name, got, want[k])
		}
	}
}

// The k-th place that a picture keeps stands in the k-th block of its room; what is not used is 0, and all of it when the picture is lost.
func TestP5RoomIsUsedInOrder(t *testing.T) {
	x, y, z := api.Block{1}, api.Block{2}, api.Block{3}
	p, _ := NewPool(9)
	p.Create("a", 4)
	p.Write("a", 3, x)
	p.Picture("p", "a", 3)
	p.Picture("q", "a", 1)
	wantsOnDisk(t, p, "p", api.Block{}, api.Block{}, api.Block{})
	p.Write("a", 3, y)
	wantsOnDisk(t, p, "p", x, api.Block{}, api.Block{})
	wantsOnDisk(t, p, "q", x)
	p.Write("p", 1, y)
	wantsOnDisk(t, p, "p", x, y, api.Block{})
	p.Write("p", 3, z)
	wantsOnDisk(t, p, "p", z, y, api.Block{})
	p.Write("a", 3, x)
	wantsOnDisk(t, p, "p", z, y, api.Block{})
	p.Write("q", 0, y)
	wantsOnDisk(t, p, "q", api.Block{})
	p.Write("p", 0, z)
	wantsOnDisk(t, p, "p", z, y, z)
	p.Write("a", 2, z)
	wantsOnDisk(t, p, "p", api.Block{}, api.Block{}, api.Block{})
	wantsOnDisk(t, p, "a", api.Block{}, api.Block{}, z, x)
}
