package strata

import (
	"slices"

	"strata/api"
)

// keptIn tells which block of its room a picture has for a place, if it keeps that place.
func (v *volume) keptIn(at int) (int, bool) {
	k := slices.Index(v.kept, at)
	if k < 0 {
		return 0, false
	}
	return v.blocks[k], true
}

// holder tells which block of the disk holds what stands at a place.
func (v *volume) holder(at int) int {
	if !v.isPicture() {
		return v.blocks[at]
	}
	if n, ok := v.keptIn(at); ok {
		return n
	}
	return v.origin.holder(at)
}

// picturesOf lists the pictures of a volume, lost ones too.
func (p *Pool) picturesOf(origin *volume) []*volume {
	var l []*volume
	for _, v := range p.volumes {
		if v.origin == origin {
			l = append(l, v)
		}
	}
	return l
}

// writeVolume lets the pictures keep first what is written over.
func (p *Pool) writeVolume(v *volume, at int, b api.Block) {
	n := v.holder(at)
	for _, picture := range p.picturesOf(v) {
		if _, keeps := picture.keptIn(at); !keeps && !picture.lost {
			p.keep(picture, at, p.disk.Read(n))
		}
	}
	p.disk.Write(n, b)
}

// writePicture lets a block stand in a picture, at a place that it keeps, or keeps then.
func (p *Pool) writePicture(v *volume, at int, b api.Block) api.Errno {
	if n, ok := v.keptIn(at); ok {
		p.disk.Write(n, b)
		return api.OK
	}
	return p.keep(v, at, b)
}

// keep lets a picture keep one place more, where b is to stand; without room for it the picture is lost.
func (p *Pool) keep(v *volume, at int, b api.Block) api.Errno {
	k := len(v.kept)
	if k == len(v.blocks) {
		p.lose(v)
		return api.ErrRoom
	}
	v.kept = append(v.kept, at)
	p.disk.Write(v.blocks[k], b)
	return api.OK
}

// lose leaves a picture its room, but nothing in it.
func (p *Pool) lose(v *volume) {
	v.kept, v.lost = nil, true
	p.disk.Wipe(v.blocks)
}
