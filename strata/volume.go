package strata

import (
	"slices"
	"strings"

	"strata/api"
)

// volume has its blocks in the order of its places: their count is its size.
type volume struct {
	name   string
	blocks []int
}

// isName tells whether a text is a NAME.
func isName(text string) bool {
	if len(text) < 1 || len(text) > api.MaxName {
		return false
	}
	for i := range len(text) {
		if text[i] < 'a' || text[i] > 'z' {
			return false
		}
	}
	return true
}

// isCount tells whether there may be so many blocks, of a disk or of a volume.
func isCount(n int) bool { return n >= 1 && n <= api.MaxBlocks }

func (v *volume) size() int { return len(v.blocks) }

func (v *volume) hasPlace(at int) bool { return at >= 0 && at < v.size() }

// numbers lists the blocks in memory of its own.
func (v *volume) numbers() []int {
	l := slices.Clone(v.blocks)
	return l[:len(l):len(l)]
}

// extend puts blocks behind those that are there.
func (v *volume) extend(more []int) {
	n := v.size()
	v.blocks = append(v.blocks[:n:n], more...)
}

// cut leaves the first blocks, and answers the others. Both end where they are cut, so that neither can grow into what stood behind it.
func (v *volume) cut(size int) []int {
	n := v.size()
	rest := v.blocks[size:n:n]
	v.blocks = v.blocks[:size:size]
	return rest
}

// told is what List tells.
func (v *volume) told() api.Volume {
	return api.Volume{Name: v.name, Size: v.size()}
}

// compareName orders volumes by name.
func compareName(v *volume, name string) int { return strings.Compare(v.name, name) }
