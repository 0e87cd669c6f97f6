package strata_test

import (
	"maps"
	"math/rand"
	"slices"
	"testing"

	"strata/api"
	"strata/strata"
)

// thing is a volume or a picture of a model. It has all that stands in it as a copy of its own, of a picture too.
type thing struct {
	blocks []int
	holds  []api.Block
	of     string
	kept   map[int]bool
	lost   bool
}

// model does by plain counting and copying what a Pool promises.
type model struct {
	owner  []string // of each block, "" if it is free
	things map[string]*thing
}

func newModel(blocks int) *model {
	return &model{owner: make([]string, blocks), things: map[string]*thing{}}
}

func (m *model) free() (l []int) {
	for i, name := range m.owner {
		if name == "" {
			l = append(l, i)
		}
	}
	return l
}

func (m *model) give(name string, n int) {
	for _, b := range m.free()[:n] {
		m.owner[b] = name
		m.things[name].blocks = append(m.things[name].blocks, b)
	}
}

func (m *model) drop(name string, n int) {
	v := m.things[name]
	for range n {
		last := len(v.blocks) - 1
		m.owner[v.blocks[last]] = ""
		v.blocks = v.blocks[:last]
	}
}

func (m *model) pictures(of string) (l []string) {
	for name, v := range m.things {
		if v.of == of {
			l = append(l, name)
		}
	}
	return l
}

func (m *model) create(name string, size int) api.Errno {
	switch {
	case m.things[name] != nil:
		return api.ErrExists
	case size < 1 || size > 200:
		return api.ErrArg
	case len(m.things) == 20:
		return api.ErrMany
	case size > len(m.free()):
		return api.ErrFull
	}
	m.things[name] = &thing{holds: make([]api.Block, size)}
	m.give(name, size)
	return api.OK
}

func (m *model) picture(name, of string, room int) api.Errno {
	v := m.things[of]
	switch {
	case m.things[name] != nil:
		return api.ErrExists
	case v == nil:
		return api.ErrNone
	case v.of != "":
		return api.ErrPicture
	case room < 1 || room > len(v.holds):
		return api.ErrArg
	case len(m.things) == 20:
		return api.ErrMany
	case room > len(m.free()):
		return api.ErrFull
	}
	m.things[name] = &thing{holds: slices.Clone(v.holds), of: of, kept: map[int]bool{}}
	m.give(name, room)
	return api.OK
}

// keep counts a place that a picture must keep.
func (v *thing) keep(at int) bool {
	v.kept[at] = true
	if len(v.kept) > len(v.blocks) {
		v.kept, v.lost = nil, true
	}
	return !v.lost
}

func (m *model) write(name string, at int, b api.Block) api.Errno {
	v := m.things[name]
	switch {
	case v == nil:
		return api.ErrNone
	case v.lost:
		return api.ErrLost
	case at < 0 || at >= len(v.holds):
		return api.ErrArg
	case v.holds[at] == b:
		return api.OK
	}
	if v.of != "" && !v.keep(at) {
		return api.ErrRoom
	}
	if v.of == "" {
		for _, picture := range m.pictures(name) {
			if q := m.things[picture]; !q.lost {
				q.keep(at)
			}
		}
	}
	v.holds[at] = b
	return api.OK
}

func (m *model) resize(name string, size int) api.Errno {
	v := m.things[name]
	switch {
	case v == nil:
		return api.ErrNone
	case v.of != "":
		return api.ErrPicture
	case len(m.pictures(name)) > 0:
		return api.ErrBusy
	case size < 1 || size > 200:
		return api.ErrArg
	case size-len(v.blocks) > len(m.free()):
		return api.ErrFull
	case size > len(v.blocks):
		m.give(name, size-len(v.blocks))
	default:
		m.drop(name, len(v.blocks)-size)
	}
	holds := make([]api.Block, size)
	copy(holds, v.holds)
	v.holds = holds
	return api.OK
}

func (m *model) remove(name string) api.Errno {
	v := m.things[name]
	switch {
	case v == nil:
		return api.ErrNone
	case len(m.pictures(name)) > 0:
		return api.ErrBusy
	}
	m.drop(name, len(v.blocks))
	delete(m.things, name)
	return api.OK
}

func (m *model) revert(name string) api.Errno {
	v := m.things[name]
	switch {
	case v == nil:
		return api.ErrNone
	case v.of == "":
		return api.ErrPicture
	case v.lost:
		return api.ErrLost
	case len(m.pictures(v.of)) > 1:
		return api.ErrBusy
	}
	m.things[v.of].holds = v.holds
	return m.remove(name)
}

func (m *model) told(name string) api.Volume {
	v := m.things[name]
	if v.of == "" {
		return api.Volume{Name: name, Size: len(v.holds)}
	}
	return api.Volume{Name: name, Size: len(v.holds), Of: v.of, Room: len(v.blocks), Kept: len(v.kept), Lost: v.lost}
}

// same tells whether all that can be seen of a Pool is as the model has it.
func (m *model) same(p *strata.Pool) bool {
	names := slices.Sorted(maps.Keys(m.things))
	list := p.List()
	if len(list) != len(names) || p.Free() != len(m.free()) {
		return false
	}
	for i, name := range names {
		v := m.things[name]
		got, e := p.Map(name)
		if list[i] != m.told(name) || e != api.OK || !slices.Equal(got, v.blocks) {
			return false
		}
		for at, want := range v.holds {
			wantE := api.OK
			if v.lost {
				want, wantE = api.Block{}, api.ErrLost
			}
			if b, e := p.Read(name, at); b != want || e != wantE {
				return false
			}
		}
	}
	return true
}

// some draws a name: mostly one that there is.
func some(r *rand.Rand, m *model) string {
	names := slices.Sorted(maps.Keys(m.things))
	if len(names) == 0 || r.Intn(8) == 0 {
		return string(rune('a' + r.Intn(24)))
	}
	return names[r.Intn(len(names))]
}

// size tells how many places there are: 0 of what there is not.
func (m *model) size(name string) int {
	if v := m.things[name]; v != nil {
		return len(v.holds)
	}
	return 0
}

// step does one call, in the Pool and in the model, with sizes about up to most.
func step(r *rand.Rand, p *strata.Pool, m *model, most int) (what string, got, want api.Errno) {
	fresh, name := string(rune('a'+r.Intn(24))), some(r, m)
	n := r.Intn(most+3) - 1
	switch r.Intn(20) {
	case 0, 1, 2:
		return "Create", p.Create(fresh, n), m.create(fresh, n)
	case 3, 4, 5:
		room := 1 + r.Intn(m.size(name)+1) - r.Intn(2)
		return "Picture", p.Picture(fresh, name, room), m.picture(fresh, name, room)
	case 6:
		return "Resize", p.Resize(name, n), m.resize(name, n)
	case 7:
		if r.Intn(4) > 0 { // fewer go than come
			return "Create", p.Create(fresh, n), m.create(fresh, n)
		}
		return "Remove", p.Remove(name), m.remove(name)
	case 8:
		return "Revert", p.Revert(name), m.revert(name)
	default:
		b := api.Block{byte(r.Intn(3)), 7: byte(r.Intn(3))}
		at := r.Intn(m.size(name)+3) - 1
		return "Write", p.Write(name, at, b), m.write(name, at, b)
	}
}

func TestP3ToP7AndP10AgainstAModel(t *testing.T) {
	type answer struct {
		what string
		e    api.Errno
	}
	met := map[answer]int{}
	for seed := range int64(108) {
		r := rand.New(rand.NewSource(seed))
		blocks := []int{1, 2, 5, 12, 40, 200}[seed%6]
		most := []int{blocks, blocks / 2, 4}[seed/6%3] // the small ones meet ErrMany, the great ones ErrFull
		p, m := newPool(t, blocks), newModel(blocks)
		for i := range 400 {
			what, got, want := step(r, p, m, most)
			if got != want || !m.same(p) {
				t.Fatalf("seed %d, step %d: %s answered %d, want %d; then %s", seed, i, what, got, want, state(p))
			}
			met[answer{what, got}]++
		}
	}
	// Each answer that a call can give to what is drawn here must have been met, or the test tells too little.
	for what, answers := range map[string][]api.Errno{
		"Create":  {api.OK, api.ErrArg, api.ErrExists, api.ErrMany, api.ErrFull},
		"Picture": {api.OK, api.ErrArg, api.ErrExists, api.ErrNone, api.ErrMany, api.ErrFull, api.ErrPicture},
		"Resize":  {api.OK, api.ErrArg, api.ErrNone, api.ErrFull, api.ErrPicture, api.ErrBusy},
		"Remove":  {api.OK, api.ErrNone, api.ErrBusy},
		"Revert":  {api.OK, api.ErrNone, api.ErrPicture, api.ErrBusy, api.ErrLost},
		"Write":   {api.OK, api.ErrArg, api.ErrNone, api.ErrLost, api.ErrRoom},
	} {
		for _, e := range answers {
			if met[answer{what, e}] == 0 {
				t.Errorf("%s never answered %d", what, e)
			}
		}
	}
}
