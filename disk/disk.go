// Package disk: the blocks of one disk, and which of them are free.
package disk

import "strata/api"

// Disk has its blocks numbered from 0 on. A free block's bytes are 0.
type Disk struct {
	blocks []api.Block
	free   lowest
}

// New makes a disk of n blocks, all of them free.
func New(n int) *Disk {
	return &Disk{blocks: make([]api.Block, n), free: upTo(n)}
}

// Size tells how many blocks there are.
func (d *Disk) Size() int { return len(d.blocks) }

// Free tells how many blocks are free.
func (d *Disk) Free() int { return len(d.free) }

// Read tells what stands in the block n.
func (d *Disk) Read(n int) api.Block { return d.blocks[n] }

// Write lets b stand in the block n.
func (d *Disk) Write(n int, b api.Block) { d.blocks[n] = b }

// Take takes the n lowest free blocks, the lowest first; or none, and answers ErrFull.
func (d *Disk) Take(n int) (taken []int, e api.Errno) {
	whole := false
	defer func() {
		if !whole {
			d.Give(taken)
			taken = nil
		}
	}()
	for range n {
		b, ok := d.free.pop()
		if !ok {
			return taken, api.ErrFull
		}
		taken = append(taken, b)
	}
	whole = true
	return taken, api.OK
}

// Wipe lets only 0 stand in blocks.
func (d *Disk) Wipe(blocks []int) {
	for _, n := range blocks {
		d.blocks[n] = api.Block{}
	}
}

// Give makes blocks free. They are wiped here, so that whoever takes them next finds only 0.
func (d *Disk) Give(blocks []int) {
	d.Wipe(blocks)
	for _, n := range blocks {
		d.free.push(n)
	}
}
