package strata_test

import (
	"bytes"
	"math/rand"
	"slices"
	"testing"

	"strata/api"
	"strata/strata"
)

// drawing is a disk as an image tells it, drawn at random: in orders of blocks and places too that calls alone come to seldom.
type drawing struct {
	blocks []api.Block
	list   []drawn
}

type drawn struct {
	name   string
	kind   int
	size   int
	origin int // in the list
	has    []int
	keeps  []int
}

func drawNames(r *rand.Rand, n int) []string {
	names := map[string]bool{}
	for len(names) < n {
		name := make([]byte, 1+r.Intn(10))
		for i := range name {
			name[i] = "abz"[r.Intn(3)]
		}
		names[string(name)] = true
	}
	var l []string
	for name := range names {
		l = append(l, name)
	}
	slices.Sort(l)
	return l
}

func draw(r *rand.Rand) drawing {
	d := drawing{blocks: make([]api.Block, []int{1, 2, 7, 30, 200}[r.Intn(5)])}
	left := r.Perm(len(d.blocks))
	for _, name := range drawNames(r, r.Intn(api.MaxVolumes+1)) {
		if len(left) == 0 {
			break
		}
		v := drawn{name: name, size: 1 + r.Intn(min(len(left), 12)), origin: -1}
		v.has, left = left[:v.size], left[v.size:]
		d.list = append(d.list, v)
	}
	d.makePictures(r)
	for _, v := range d.list {
		for k, n := range v.has {
			if v.kind == 0 || k < len(v.keeps) {
				d.blocks[n] = api.Block{byte(r.Intn(256)), 7: byte(r.Intn(3))}
			}
		}
	}
	return d
}

// makePictures makes some volumes pictures of others.
func (d drawing) makePictures(r *rand.Rand) {
	var volumes []int
	for i := range d.list {
		if r.Intn(3) == 0 {
			volumes = append(volumes, i)
		}
	}
	for i := range d.list {
		if len(volumes) == 0 || slices.Contains(volumes, i) {
			continue
		}
		v := &d.list[i]
		v.kind, v.origin = 1+r.Intn(4)/3, volumes[r.Intn(len(volumes))]
		v.size = d.list[v.origin].size
		v.has = v.has[:min(len(v.has), v.size)]
		if v.kind == 1 {
			v.keeps = r.Perm(v.size)[:r.Intn(len(v.has)+1)]
		}
	}
}

func (d drawing) body() []byte {
	two := func(l []int) []byte {
		out := laid(0, len(l))
		for _, n := range l {
			out = append(out, 0, byte(n))
		}
		return out
	}
	l := laid("STR1", 0, len(d.blocks), len(d.list))
	for _, v := range d.list {
		l = laid(l, len(v.name), v.name, v.kind, 0, v.size)
		if v.kind == 0 {
			l = laid(l, two(v.has))
		} else {
			l = laid(l, v.origin, two(v.has), two(v.keeps))
		}
	}
	for _, b := range d.blocks {
		l = laid(l, b)
	}
	return l
}

// holds tells what stands at a place.
func (d drawing) holds(v drawn, at int) api.Block {
	if v.kind == 0 {
		return d.blocks[v.has[at]]
	}
	if k := slices.Index(v.keeps, at); k >= 0 {
		return d.blocks[v.has[k]]
	}
	return d.holds(d.list[v.origin], at)
}

// same tells whether all that can be seen of a Pool is as it was drawn.
func (d drawing) same(p *strata.Pool) bool {
	free, told := len(d.blocks), p.List()
	if len(told) != len(d.list) {
		return false
	}
	for i, v := range d.list {
		free -= len(v.has)
		want := api.Volume{Name: v.name, Size: v.size}
		if v.kind > 0 {
			want = api.Volume{Name: v.name, Size: v.size, Of: d.list[v.origin].name, Room: len(v.has), Kept: len(v.keeps), Lost: v.kind == 2}
		}
		l, e := p.Map(v.name)
		if told[i] != want || e != api.OK || !slices.Equal(l, v.has) {
			return false
		}
		for at := range v.size {
			b, e := p.Read(v.name, at)
			if v.kind == 2 && e != api.ErrLost || v.kind < 2 && (e != api.OK || b != d.holds(v, at)) {
				return false
			}
		}
	}
	return p.Free() == free
}

func TestP8AndP9WhatIsDrawnComesBack(t *testing.T) {
	for seed := range int64(1500) {
		d := draw(rand.New(rand.NewSource(seed)))
		image := sealed(d.body())
		p := wantsLoaded(t, image)
		if !d.same(p) {
			t.Fatalf("seed %d: Load of %+v is %s", seed, d, state(p))
		}
		if got := p.Image(); !bytes.Equal(got, image) {
			t.Fatalf("seed %d: Image() = %v, want %v", seed, got, image)
		}
	}
}

// checker finds what is wrong in a body, by going on with zeros behind it and telling the first only.
type checker struct {
	body  []byte
	at    int
	place int
	what  string // of the fault, "" if there is none
}

func (c *checker) fault(place int, what string) {
	if c.what == "" {
		c.place, c.what = place, what
	}
}

func (c *checker) bytes(n int) []byte {
	if c.what != "" || len(c.body) < c.at+n {
		c.fault(len(c.body), "end")
		return make([]byte, n)
	}
	c.at += n
	return c.body[c.at-n : c.at]
}

func (c *checker) one() int { return int(c.bytes(1)[0]) }

func (c *checker) two() int {
	l := c.bytes(2)
	return 256*int(l[0]) + int(l[1])
}

// checked is an entry as the checker reads it.
type checked struct {
	kind, size, origin, originAt int
}

func (c *checker) name(ahead string) string {
	n := c.one()
	if n < 1 || n > 10 {
		c.fault(c.at-1, "length")
		n = 1
	}
	name := string(c.bytes(n))
	for _, b := range []byte(name) {
		if b < 97 || b > 122 {
			c.fault(c.at-n, "letter")
		}
	}
	if name <= ahead {
		c.fault(c.at-n, "order")
	}
	return name
}

func (c *checker) entry(blocks, count int, owner map[int]int) checked {
	v := checked{kind: c.one()}
	if v.kind > 2 {
		c.fault(c.at-1, "kind")
	}
	if v.size = c.two(); v.size == 0 || v.size > 200 {
		c.fault(c.at-2, "size")
	}
	if v.kind > 0 {
		v.originAt = c.at
		if v.origin = c.one(); v.origin >= count {
			c.fault(c.at-1, "no origin")
		}
	}
	n := c.two()
	if v.kind == 0 && n != v.size || v.kind > 0 && (n == 0 || n > v.size) {
		c.fault(c.at-2, "number of blocks")
	}
	var has []int
	for i := 0; i < n && c.what == ""; i++ {
		b := c.two()
		if _, ok := owner[b]; ok || b >= blocks {
			c.fault(c.at-2, map[bool]string{true: "block twice", false: "no block"}[ok])
		}
		owner[b] = 0
		has = append(has, b)
	}
	used := n
	if v.kind > 0 {
		used = c.places(v, n)
	}
	for k, b := range has {
		if k < used {
			owner[b] = 1
		}
	}
	return v
}

func (c *checker) places(v checked, room int) int {
	n := c.two()
	if n > room {
		c.fault(c.at-2, "number of places")
	}
	if v.kind == 2 && n > 0 {
		c.fault(c.at-2, "places of a lost one")
	}
	var seen []int
	for i := 0; i < n && c.what == ""; i++ {
		place := c.two()
		if place >= v.size {
			c.fault(c.at-2, "no place")
		}
		if slices.Contains(seen, place) {
			c.fault(c.at-2, "place twice")
		}
		seen = append(seen, place)
	}
	return n
}

func (c *checker) check() {
	for i := range 4 {
		if c.one() != int("STR1"[i]) {
			c.fault(i, "mark")
		}
	}
	blocks := c.two()
	if blocks < 1 || blocks > 200 {
		c.fault(4, "blocks")
	}
	count := c.one()
	if count > 20 {
		c.fault(6, "volumes")
	}
	name, list, owner := "", []checked{}, map[int]int{}
	for i := 0; i < count && c.what == ""; i++ {
		name = c.name(name)
		list = append(list, c.entry(blocks, count, owner))
	}
	for i := 0; i < len(list) && c.what == ""; i++ {
		if v := list[i]; v.kind > 0 {
			if list[v.origin].kind > 0 {
				c.fault(v.originAt, "origin that is a picture")
			}
			if list[v.origin].size != v.size {
				c.fault(v.originAt, "origin of another size")
			}
		}
	}
	if c.what == "" && len(c.body) < c.at+8*blocks {
		c.fault(len(c.body), "end within the blocks")
	}
	for i := 0; i < blocks && c.what == ""; i++ {
		if used, ok := owner[i]; used == 0 && !bytes.Equal(c.bytes(8), make([]byte, 8)) {
			c.fault(c.at-8, map[bool]string{true: "room", false: "free"}[ok])
		} else if used > 0 {
			c.bytes(8)
		}
	}
	if c.what == "" && c.at < len(c.body) {
		c.fault(c.at, "behind all")
	}
}

// spoil lets some bytes be others, and at times the end be elsewhere.
func spoil(r *rand.Rand, body []byte) []byte {
	l := slices.Clone(body)
	list := min(len(l), 7+r.Intn(100)) // most of what can be wrong stands ahead
	for range 1 + r.Intn(3) {
		at := r.Intn(list)
		if r.Intn(4) == 0 {
			at = r.Intn(len(l))
		}
		switch r.Intn(4) {
		case 0:
			l[at] = byte(r.Intn(256))
		case 1:
			l[at] = byte(r.Intn(8))
		case 2:
			l[at]++
		default:
			l[at] = l[r.Intn(list)]
		}
	}
	switch r.Intn(8) {
	case 0:
		return l[:r.Intn(len(l)+1)]
	case 1:
		return append(l, make([]byte, r.Intn(20))...)
	}
	return l
}

func TestP1AndP8SpoiledImagesAgainstAChecker(t *testing.T) {
	met := map[string]int{}
	for seed := range int64(15000) {
		r := rand.New(rand.NewSource(seed))
		body := spoil(r, draw(r).body())
		c := &checker{body: body}
		c.check()
		met[c.what]++
		image := sealed(body)
		p, e, at := strata.Load(image)
		if c.what == "" {
			if p == nil || e != api.OK || at != 0 || !bytes.Equal(p.Image(), image) {
				t.Fatalf("seed %d: Load(%v) = %d, %d, want its Pool", seed, image, e, at)
			}
		} else if p != nil || e != api.ErrForm || at != c.place {
			t.Fatalf("seed %d: Load(%v) = %v, %d, %d, want ErrForm, %d (%s)", seed, image, p, e, at, c.place, c.what)
		}
	}
	// Each fault that there is must have been met, or the test tells too little.
	for _, what := range []string{
		"", "end", "mark", "blocks", "volumes", "length", "letter", "order", "kind", "size", "no origin", "number of blocks", "no block", "block twice",
		"number of places", "places of a lost one", "no place", "place twice", "origin that is a picture", "origin of another size",
		"end within the blocks", "free", "room", "behind all",
	} {
		if met[what] < 3 {
			t.Errorf("met %d times: %q", met[what], what)
		}
	}
}

func TestP1LoadAtAllBytes(t *testing.T) {
	r := rand.New(rand.NewSource(1))
	for i := range 3000 {
		l := make([]byte, r.Intn(300))
		for k := range l {
			l[k] = byte(r.Intn(1 + r.Intn(256)))
		}
		if i%2 == 0 {
			copy(l, "STR1")
		}
		for _, image := range [][]byte{l, sealed(l)} {
			p, e, at := strata.Load(image)
			if e == api.OK && (p == nil || at != 0) || e != api.OK && p != nil || e == api.ErrSum && at != 0 || at < 0 || at > len(image) {
				t.Fatalf("Load(%v) = %v, %d, %d", image, p, e, at)
			}
			if e != api.OK && e != api.ErrSum && e != api.ErrForm {
				t.Fatalf("Load(%v) answered %d", image, e)
			}
		}
	}
}

// What was loaded goes on as the model does; what it was loaded from stays as it was.
func TestP9AgainstAModel(t *testing.T) {
	for seed := range int64(60) {
		r := rand.New(rand.NewSource(seed))
		blocks := []int{1, 2, 5, 12, 40, 200}[seed%6]
		most := []int{blocks, blocks / 2, 4}[seed/6%3]
		p, m := newPool(t, blocks), newModel(blocks)
		for i := range 200 {
			what, got, want := step(r, p, m, most)
			if got != want || !m.same(p) {
				t.Fatalf("seed %d, step %d: %s answered %d, want %d; then %s", seed, i, what, got, want, state(p))
			}
			if r.Intn(3) > 0 {
				continue
			}
			image := p.Image()
			q := wantsLoaded(t, image)
			if !bytes.Equal(q.Image(), image) || !bytes.Equal(p.Image(), image) || !m.same(q) {
				t.Fatalf("seed %d, step %d: %s is loaded as %s", seed, i, state(p), state(q))
			}
			p = q
		}
	}
}

// A Pool and the one loaded from its image answer the same to the same calls, and have the same image then.
func TestP9TwoGoOnAlike(t *testing.T) {
	for seed := range int64(40) {
		r := rand.New(rand.NewSource(seed))
		p := wantsLoaded(t, sealed(draw(r).body()))
		q := wantsLoaded(t, p.Image())
		names := drawNames(r, 4)
		for _, v := range p.List() {
			names = append(names, v.Name)
		}
		for i := range 150 {
			name, other, n := names[r.Intn(len(names))], names[r.Intn(len(names))], r.Intn(8)-1
			b := api.Block{byte(r.Intn(3))}
			do := []func(p *strata.Pool) api.Errno{
				func(p *strata.Pool) api.Errno { return p.Create(name, n) },
				func(p *strata.Pool) api.Errno { return p.Picture(name, other, n) },
				func(p *strata.Pool) api.Errno { return p.Write(name, n, b) },
				func(p *strata.Pool) api.Errno { return p.Write(other, n, b) },
				func(p *strata.Pool) api.Errno { return p.Resize(name, n) },
				func(p *strata.Pool) api.Errno { return p.Revert(name) },
				func(p *strata.Pool) api.Errno { return p.Remove(name) },
			}[r.Intn(7)]
			if e, f := do(p), do(q); e != f || state(p) != state(q) || !bytes.Equal(p.Image(), q.Image()) {
				t.Fatalf("seed %d, step %d: %d, %s\nof what was loaded: %d, %s", seed, i, e, state(p), f, state(q))
			}
		}
	}
}
