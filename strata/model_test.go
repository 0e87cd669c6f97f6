package strata_test

import (
	"maps"
	"math/rand"
	"slices"
	"testing"

	"strata/api"
	"strata/strata"
)

// model does by plain counting what a Pool promises of volumes.
type model struct {
	disk  []api.Block
	owner []string // of each block, "" if it is free
	maps  map[string][]int
}

func newModel(blocks int) *model {
	return &model{disk: make([]api.Block, blocks), owner: make([]string, blocks), maps: map[string][]int{}}
}

func (m *model) free() (l []int) {
	for i, name := range m.owner {
		if name == "" {
			l = append(l, i)
		}
	}
	return l
}

func (m *model) give(name string, n int) {
	for _, b := range m.free()[:n] {
		m.owner[b] = name
		m.maps[name] = append(m.maps[name], b)
	}
}

func (m *model) drop(name string, n int) {
	for range n {
		l := m.maps[name]
		b := l[len(l)-1]
		m.owner[b], m.disk[b] = "", api.Block{}
		m.maps[name] = l[:len(l)-1]
	}
}

func (m *model) create(name string, size int) api.Errno {
	_, exists := m.maps[name]
	switch {
	case exists:
		return api.ErrExists
	case size < 1 || size > 200:
		return api.ErrArg
	case len(m.maps) == 20:
		return api.ErrMany
	case size > len(m.free()):
		return api.ErrFull
	}
	m.give(name, size)
	return api.OK
}

func (m *model) write(name string, at int, b api.Block) api.Errno {
	l, exists := m.maps[name]
	switch {
	case !exists:
		return api.ErrNone
	case at < 0 || at >= len(l):
		return api.ErrArg
	}
	m.disk[l[at]] = b
	return api.OK
}

func (m *model) resize(name string, size int) api.Errno {
	l, exists := m.maps[name]
	switch {
	case !exists:
		return api.ErrNone
	case size < 1 || size > 200:
		return api.ErrArg
	case size-len(l) > len(m.free()):
		return api.ErrFull
	case size > len(l):
		m.give(name, size-len(l))
	default:
		m.drop(name, len(l)-size)
	}
	return api.OK
}

func (m *model) remove(name string) api.Errno {
	l, exists := m.maps[name]
	if !exists {
		return api.ErrNone
	}
	m.drop(name, len(l))
	delete(m.maps, name)
	return api.OK
}

// same tells whether all that can be seen of a Pool is as the model has it.
func (m *model) same(p *strata.Pool) bool {
	names := slices.Sorted(maps.Keys(m.maps))
	list := p.List()
	if len(list) != len(names) || p.Free() != len(m.free()) {
		return false
	}
	for i, name := range names {
		want := m.maps[name]
		got, e := p.Map(name)
		if list[i] != (api.Volume{Name: name, Size: len(want)}) || e != api.OK || !slices.Equal(got, want) {
			return false
		}
		for at, n := range want {
			if b, e := p.Read(name, at); b != m.disk[n] || e != api.OK {
				return false
			}
		}
	}
	return true
}

// step does one call, in the Pool and in the model, with sizes about up to most.
func step(r *rand.Rand, p *strata.Pool, m *model, most int) (got, want api.Errno) {
	name := string(rune('a' + r.Intn(24)))
	n := r.Intn(most+3) - 1
	switch r.Intn(8) {
	case 0, 1:
		return p.Create(name, n), m.create(name, n)
	case 2, 3:
		return p.Resize(name, n), m.resize(name, n)
	case 4:
		if r.Intn(2) == 0 { // fewer go than come
			return p.Create(name, n), m.create(name, n)
		}
		return p.Remove(name), m.remove(name)
	default:
		b := api.Block{byte(r.Intn(3)), 7: byte(r.Intn(3))}
		at := r.Intn(len(m.maps[name])+3) - 1
		return p.Write(name, at, b), m.write(name, at, b)
	}
}

func TestP3ToP7AgainstAModel(t *testing.T) {
	for seed := range int64(60) {
		r := rand.New(rand.NewSource(seed))
		blocks := []int{1, 2, 5, 12, 40, 200}[seed%6]
		most := []int{blocks, blocks / 2, 2}[seed/6%3] // the small ones meet ErrMany, the great ones ErrFull
		p, m := newPool(t, blocks), newModel(blocks)
		for i := range 400 {
			got, want := step(r, p, m, most)
			if got != want || !m.same(p) {
				t.Fatalf("seed %d, step %d: answered %d, want %d; then %s", seed, i, got, want, state(p))
			}
		}
	}
}
