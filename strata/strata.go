// Package strata: volumes on one disk, and pictures of them that stay as they were: see DOC.md.
package strata

import (
	"slices"
	"strings"

	"strata/api"
	"strata/disk"
)

// Pool is a disk, its volumes and pictures.
type Pool struct {
	self    *Pool // itself: a copy of a Pool is not one that was made, and would share its disk
	disk    *disk.Disk
	volumes []*volume // by name
}

// NewPool makes a Pool (P3).
func NewPool(blocks int) (*Pool, api.Errno) {
	if !isCount(blocks) {
		return nil, api.ErrArg
	}
	return newPool(disk.New(blocks), nil), api.OK
}

// newPool makes a Pool of a disk and of what is on it, by name.
func newPool(d *disk.Disk, volumes []*volume) *Pool {
	p := &Pool{disk: d, volumes: volumes}
	p.self = p
	return p
}

// made tells whether NewPool or Load made this Pool.
func (p *Pool) made() bool { return p != nil && p.self == p }

// index tells where a name stands among the volumes, or would stand.
func (p *Pool) index(name string) (int, bool) {
	return slices.BinarySearchFunc(p.volumes, name, compareName)
}

// find tells what has a name.
func (p *Pool) find(name string) (*volume, api.Errno) {
	if !p.made() {
		return nil, api.ErrClosed
	}
	i, ok := p.index(name)
	if !ok {
		return nil, api.ErrNone
	}
	return p.volumes[i], api.OK
}

// findPlace tells what has a name and such a place.
func (p *Pool) findPlace(name string, at int) (*volume, api.Errno) {
	v, e := p.find(name)
	if e != api.OK {
		return nil, e
	}
	if v.lost {
		return nil, api.ErrLost
	}
	if !v.hasPlace(at) {
		return nil, api.ErrArg
	}
	return v, api.OK
}

// findNew tells where a name that is new would stand among the volumes.
func (p *Pool) findNew(name string) (int, api.Errno) {
	if !p.made() {
		return 0, api.ErrClosed
	}
	if !isName(name) {
		return 0, api.ErrName
	}
	i, exists := p.index(name)
	if exists {
		return 0, api.ErrExists
	}
	return i, api.OK
}

// Create makes a volume (P4).
func (p *Pool) Create(name string, size int) api.Errno {
	i, e := p.findNew(name)
	if e != api.OK {
		return e
	}
	if !isCount(size) {
		return api.ErrArg
	}
	// The name is copied, here and of a picture: the caller's text may be a small piece of a great one.
	return p.add(i, &volume{name: strings.Clone(name)}, size)
}

// add gives v so many blocks, and puts it at i among the volumes.
func (p *Pool) add(i int, v *volume, count int) api.Errno {
	if len(p.volumes) >= api.MaxVolumes {
		return api.ErrMany
	}
	blocks, e := p.disk.Take(count)
	if e != api.OK {
		return e
	}
	v.blocks = blocks
	p.insert(i, v)
	return api.OK
}

// insert cuts what stands ahead with its capacity: else v would be written over what stands behind.
func (p *Pool) insert(i int, v *volume) {
	ahead := append(p.volumes[:i:i], v)
	p.volumes = append(ahead, p.volumes[i:]...)
}

// Picture takes a picture of a volume (P4).
func (p *Pool) Picture(name string, of string, room int) api.Errno {
	i, e := p.findNew(name)
	if e != api.OK {
		return e
	}
	origin, e := p.find(of)
	if e != api.OK {
		return e
	}
	if origin.isPicture() {
		return api.ErrPicture
	}
	if room < 1 || room > origin.size() {
		return api.ErrArg
	}
	return p.add(i, &volume{name: strings.Clone(name), origin: origin}, room)
}

// Read tells what stands somewhere (P5).
func (p *Pool) Read(name string, at int) (api.Block, api.Errno) {
	v, e := p.findPlace(name, at)
	if e != api.OK {
		return api.Block{}, e
	}
	return p.disk.Read(v.holder(at)), api.OK
}

// Write lets a block stand somewhere (P5).
func (p *Pool) Write(name string, at int, b api.Block) api.Errno {
	v, e := p.findPlace(name, at)
	if e != api.OK {
		return e
	}
	if p.disk.Read(v.holder(at)) == b {
		return api.OK
	}
	if v.isPicture() {
		return p.writePicture(v, at, b)
	}
	p.writeVolume(v, at, b)
	return api.OK
}

// Resize gives a volume more blocks, or fewer (P6).
func (p *Pool) Resize(name string, size int) api.Errno {
	v, e := p.find(name)
	if e != api.OK {
		return e
	}
	if v.isPicture() {
		return api.ErrPicture
	}
	if len(p.picturesOf(v)) > 0 {
		return api.ErrBusy
	}
	if !isCount(size) {
		return api.ErrArg
	}
	if size <= v.size() {
		p.disk.Give(v.cut(size))
		return api.OK
	}
	more, e := p.disk.Take(size - v.size())
	if e != api.OK {
		return e
	}
	v.extend(more)
	return api.OK
}

// Revert makes a picture its origin's content (P6).
func (p *Pool) Revert(name string) api.Errno {
	v, e := p.find(name)
	if e != api.OK {
		return e
	}
	if !v.isPicture() {
		return api.ErrPicture
	}
	if v.lost {
		return api.ErrLost
	}
	if len(p.picturesOf(v.origin)) > 1 {
		return api.ErrBusy
	}
	for k, at := range v.kept {
		p.disk.Write(v.origin.holder(at), p.disk.Read(v.blocks[k]))
	}
	p.drop(v)
	return api.OK
}

// Remove takes a volume or a picture away (P6).
func (p *Pool) Remove(name string) api.Errno {
	v, e := p.find(name)
	if e != api.OK {
		return e
	}
	if len(p.picturesOf(v)) > 0 {
		return api.ErrBusy
	}
	p.drop(v)
	return api.OK
}

// drop takes v out of the list, and makes its blocks free.
func (p *Pool) drop(v *volume) {
	p.disk.Give(v.blocks)
	i, _ := p.index(v.name)
	p.volumes = append(p.volumes[:i:i], p.volumes[i+1:]...)
}

// List tells all volumes and pictures (P7).
func (p *Pool) List() []api.Volume {
	if !p.made() {
		return nil
	}
	var l []api.Volume
	for _, v := range p.volumes {
		l = append(l, v.told())
	}
	return l[:len(l):len(l)]
}

// Map tells which blocks a volume or a picture has (P7).
func (p *Pool) Map(name string) ([]int, api.Errno) {
	v, e := p.find(name)
	if e != api.OK {
		return nil, e
	}
	return v.numbers(), api.OK
}

// Free tells how many blocks are free (P3).
func (p *Pool) Free() int {
	if !p.made() {
		return 0
	}
	return p.disk.Free()
}
