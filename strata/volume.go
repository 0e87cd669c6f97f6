package strata

import (
	"slices"
	"strings"

	"strata/api"
)

// volume is a volume, or a picture of one. A volume has its blocks in the order of its places: their count is its size. A picture's blocks are its room.
type volume struct {
	name   string
	blocks []int
	origin *volume // of a picture
	kept   []int   // of a picture: the places that it keeps, the k-th one in its k-th block
	lost   bool    // of a picture
}

// isName tells whether a text is a NAME.
func isName(text string) bool {
	if len(text) < 1 || len(text) > api.MaxName {
		return false
	}
	for i := range len(text) {
		if text[i] < 'a' || text[i] > 'z' {
			return false
		}
	}
	return true
}

// isCount tells whether there may be so many blocks, of a disk or of a volume.
func isCount(n int) bool { return n >= 1 && n <= api.MaxBlocks }

func (v *volume) isPicture() bool { return v.origin != nil }

// size of a picture is its origin's, which stays the same while it has pictures.
func (v *volume) size() int {
	if v.isPicture() {
		return v.origin.size()
	}
	return len(v.blocks)
}

func (v *volume) hasPlace(at int) bool { return at >= 0 && at < v.size() }

// numbers lists the blocks in memory of its own.
func (v *volume) numbers() []int {
	l := slices.Clone(v.blocks)
	return l[:len(l):len(l)]
}

// extend puts blocks behind those that are there.
func (v *volume) extend(more []int) {
	n := len(v.blocks)
	v.blocks = append(v.blocks[:n:n], more...)
}

// cut leaves the first blocks, and answers the others. Both end where they are cut, so that neither can grow into what stood behind it.
func (v *volume) cut(size int) []int {
	n := len(v.blocks)
	rest := v.blocks[size:n:n]
	v.blocks = v.blocks[:size:size]
	return rest
}

// used lists the blocks in which something may stand: of a picture those that hold the places that it keeps.
func (v *volume) used() []int {
	n := len(v.blocks)
	if v.isPicture() {
		n = len(v.kept)
	}
	return v.blocks[:n:n]
}

// told is what List tells.
func (v *volume) told() api.Volume {
	if !v.isPicture() {
		return api.Volume{Name: v.name, Size: v.size()}
	}
	return api.Volume{Name: v.name, Size: v.size(), Of: v.origin.name, Room: len(v.blocks), Kept: len(v.kept), Lost: v.lost}
}

// compareName orders volumes by name.
func compareName(v *volume, name string) int { return strings.Compare(v.name, name) }
