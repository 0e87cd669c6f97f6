package strata_test

import (
	"fmt"
	"math"
	"slices"
	"strings"
	"testing"
	"unsafe"

	"strata/api"
	"strata/strata"
)

var (
	x = api.Block{1, 2, 3, 4, 5, 6, 7, 8}
	y = api.Block{7: 9}
)

// newPool makes a Pool that must be one.
func newPool(t *testing.T, blocks int) *strata.Pool {
	t.Helper()
	p, e := strata.NewPool(blocks)
	if p == nil || e != api.OK {
		t.Fatalf("NewPool(%d): %d", blocks, e)
	}
	return p
}

// wants fails the test if an answer is another one.
func wants(t *testing.T, what string, got, want api.Errno) {
	t.Helper()
	if got != want {
		t.Errorf("%s = %d, want %d", what, got, want)
	}
}

// wantsMap fails the test if a volume has other blocks.
func wantsMap(t *testing.T, p *strata.Pool, name string, want ...int) {
	t.Helper()
	if l, e := p.Map(name); e != api.OK || !slices.Equal(l, want) {
		t.Errorf("Map(%s) = %v, %d, want %v", name, l, e, want)
	}
}

// wantsBlocks fails the test if something else stands in a volume.
func wantsBlocks(t *testing.T, p *strata.Pool, name string, want ...api.Block) {
	t.Helper()
	for i, b := range want {
		if got, e := p.Read(name, i); got != b || e != api.OK {
			t.Errorf("Read(%s, %d) = %v, %d, want %v", name, i, got, e, b)
		}
	}
	if got, e := p.Read(name, len(want)); got != (api.Block{}) || e != api.ErrArg {
		t.Errorf("Read(%s, %d) = %v, %d, want ErrArg", name, len(want), got, e)
	}
}

// state tells all that can be seen of a Pool.
func state(p *strata.Pool) string {
	var out strings.Builder
	fmt.Fprintf(&out, "free %d", p.Free())
	for _, v := range p.List() {
		l, e := p.Map(v.Name)
		fmt.Fprintf(&out, "; %+v at %v (%d):", v, l, e)
		for i := range v.Size {
			b, e := p.Read(v.Name, i)
			fmt.Fprintf(&out, " %x (%d)", b, e)
		}
	}
	return out.String()
}

// full fills a Pool with MaxVolumes volumes of one block each, named a to t.
func full(t *testing.T, p *strata.Pool) {
	t.Helper()
	for i := range api.MaxVolumes {
		wants(t, fmt.Sprintf("Create of volume %d", i), p.Create(string(rune('a'+i)), 1), api.OK)
	}
}

var oddNumbers = []int{math.MinInt, math.MinInt + 1, -201, -200, -1, 0, 1, 2, 8, 199, 200, 201, 1 << 31, 1 << 32, math.MaxInt - 1, math.MaxInt}

var oddNames = []string{"", "a", "b", "A", "a ", " a", "a\x00", "\x00", "\xff\xfe", "ä", "a1", "-", "`", "{", "abcdefghij", "abcdefghijk", "äöüäö", strings.Repeat("a", 1<<16)}

func TestP1NoCallPanicsAndErrorsComeAlone(t *testing.T) {
	p := newPool(t, 9)
	p.Create("a", 3)
	for _, name := range oddNames {
		for _, n := range oddNumbers {
			p.Create(name, n)
			p.Write(name, n, x)
			if b, e := p.Read(name, n); e != api.OK && b != (api.Block{}) {
				t.Errorf("Read(%q, %d) = %v beside %d", name, n, b, e)
			}
			p.Resize(name, n)
			if l, e := p.Map(name); e != api.OK && len(l) != 0 {
				t.Errorf("Map(%q) = %v beside %d", name, l, e)
			}
		}
		p.Remove(name)
	}
	for _, n := range oddNumbers {
		if p, e := strata.NewPool(n); (p == nil) != (e != api.OK) {
			t.Errorf("NewPool(%d) = %v, %d", n, p, e)
		}
	}
}

func TestP1AnErrorChangesNothing(t *testing.T) {
	p := newPool(t, 9)
	p.Create("a", 3)
	p.Create("b", 2)
	p.Write("a", 0, x)
	p.Write("b", 1, y)
	before := state(p)
	steps := []struct {
		what string
		got  func() api.Errno
		want api.Errno
	}{
		{"Create of no name", func() api.Errno { return p.Create("a1", 1) }, api.ErrName},
		{"Create of a name that is there", func() api.Errno { return p.Create("a", 1) }, api.ErrExists},
		{"Create of nothing", func() api.Errno { return p.Create("c", 0) }, api.ErrArg},
		{"Create of too much", func() api.Errno { return p.Create("c", 5) }, api.ErrFull},
		{"Write ahead", func() api.Errno { return p.Write("a", -1, y) }, api.ErrArg},
		{"Write behind", func() api.Errno { return p.Write("a", 3, y) }, api.ErrArg},
		{"Write of none", func() api.Errno { return p.Write("c", 0, y) }, api.ErrNone},
		{"Resize to nothing", func() api.Errno { return p.Resize("a", 0) }, api.ErrArg},
		{"Resize to too much", func() api.Errno { return p.Resize("a", 8) }, api.ErrFull},
		{"Resize of none", func() api.Errno { return p.Resize("c", 1) }, api.ErrNone},
		{"Remove of none", func() api.Errno { return p.Remove("c") }, api.ErrNone},
	}
	for _, s := range steps {
		wants(t, s.what, s.got(), s.want)
		if after := state(p); after != before {
			t.Fatalf("%s changed %s to %s", s.what, before, after)
		}
	}
	p.Create("c", 4)
	wantsMap(t, p, "c", 5, 6, 7, 8)
}

func TestP1TheFirstErrorIsTold(t *testing.T) {
	p := newPool(t, 30)
	full(t, p)
	wants(t, "Create: ErrName ahead of ErrArg", p.Create("A", 0), api.ErrName)
	wants(t, "Create: ErrName ahead of ErrMany", p.Create("", 1), api.ErrName)
	wants(t, "Create: ErrExists ahead of ErrArg", p.Create("a", 0), api.ErrExists)
	wants(t, "Create: ErrExists ahead of ErrMany", p.Create("a", 100), api.ErrExists)
	wants(t, "Create: ErrArg ahead of ErrMany", p.Create("z", 201), api.ErrArg)
	wants(t, "Create: ErrMany ahead of ErrFull", p.Create("z", 11), api.ErrMany)
	wants(t, "Resize: ErrNone ahead of ErrArg", p.Resize("z", 0), api.ErrNone)
	wants(t, "Resize: ErrArg ahead of ErrFull", p.Resize("a", 201), api.ErrArg)
	wants(t, "Write: ErrNone ahead of ErrArg", p.Write("z", -1, x), api.ErrNone)
	_, e := p.Read("z", -1)
	wants(t, "Read: ErrNone ahead of ErrArg", e, api.ErrNone)
}

func TestP1PoolsThatWereNotMade(t *testing.T) {
	made := newPool(t, 9)
	made.Create("a", 1)
	before := state(made)
	copied := *made
	for _, c := range []struct {
		what string
		p    *strata.Pool
	}{{"nil", nil}, {"empty", &strata.Pool{}}, {"new", new(strata.Pool)}, {"copied", &copied}} {
		p := c.p
		wants(t, c.what+": Create", p.Create("b", 1), api.ErrClosed)
		wants(t, c.what+": Create of no name", p.Create("", 0), api.ErrClosed)
		wants(t, c.what+": Write", p.Write("a", 0, x), api.ErrClosed)
		wants(t, c.what+": Resize", p.Resize("a", 2), api.ErrClosed)
		wants(t, c.what+": Remove", p.Remove("a"), api.ErrClosed)
		if b, e := p.Read("a", 0); b != (api.Block{}) || e != api.ErrClosed {
			t.Errorf("%s: Read = %v, %d", c.what, b, e)
		}
		if l, e := p.Map("a"); len(l) != 0 || e != api.ErrClosed {
			t.Errorf("%s: Map = %v, %d", c.what, l, e)
		}
		if len(p.List()) != 0 || p.Free() != 0 {
			t.Errorf("%s: List = %v, Free = %d", c.what, p.List(), p.Free())
		}
	}
	if after := state(made); after != before {
		t.Errorf("the Pool that was copied went from %s to %s", before, after)
	}
}

func TestP2WhatIsHandedInIsNotKept(t *testing.T) {
	p := newPool(t, 9)
	text := []byte("abc")
	wants(t, "Create", p.Create(unsafe.String(&text[0], len(text)), 1), api.OK)
	b := x
	p.Write("abc", 0, b)
	copy(text, "zzz")
	b[0] = 99
	if l := p.List(); len(l) != 1 || l[0].Name != "abc" {
		t.Errorf("the name is kept: %v", l)
	}
	wantsBlocks(t, p, "abc", x)
}

func TestP2WhatComesOutIsNew(t *testing.T) {
	p := newPool(t, 30)
	for i, name := range []string{"a", "b", "c", "d", "e"} {
		p.Create(name, 1+i)
	}
	p.Resize("e", 2)
	p.Remove("d")
	p.Write("b", 0, x)
	before := state(p)
	first, second := p.List(), p.List()
	first = first[:cap(first)]
	for i := range first {
		first[i] = api.Volume{Name: "mine", Size: 77}
	}
	if len(second) != 4 || second[0].Name != "a" {
		t.Errorf("two lists share memory: %v", second)
	}
	for _, name := range []string{"a", "b", "c", "e"} {
		l, _ := p.Map(name)
		l = l[:cap(l)]
		for i := range l {
			l[i] = 77
		}
		_ = append(l[:0], 77)
	}
	b, _ := p.Read("b", 0)
	b[0] = 77
	if after := state(p); after != before {
		t.Errorf("what came out is shared: %s is now %s", before, after)
	}
	p.Resize("e", 4)
	wantsMap(t, p, "e", 10, 11, 6, 7)
}

func TestP2PoolsKnowNothingOfEachOther(t *testing.T) {
	p, q := newPool(t, 9), newPool(t, 9)
	p.Create("a", 2)
	p.Write("a", 0, x)
	before := state(p)
	wants(t, "Create in another Pool", q.Create("a", 3), api.OK)
	q.Write("a", 0, y)
	q.Resize("a", 9)
	q.Remove("a")
	if after := state(p); after != before || q.Free() != 9 {
		t.Errorf("%s is now %s; the other has %d free", before, after, q.Free())
	}
}

func TestP3NewPool(t *testing.T) {
	for _, n := range oddNumbers {
		p, e := strata.NewPool(n)
		if n < 1 || n > api.MaxBlocks {
			if p != nil || e != api.ErrArg {
				t.Errorf("NewPool(%d) = %v, %d, want ErrArg", n, p, e)
			}
			continue
		}
		if p == nil || e != api.OK || p.Free() != n || len(p.List()) != 0 {
			t.Errorf("NewPool(%d): %d", n, e)
		}
	}
}

func TestP3Free(t *testing.T) {
	p := newPool(t, 10)
	steps := []struct {
		what string
		do   func() api.Errno
		want int
	}{
		{"Create(a, 4)", func() api.Errno { return p.Create("a", 4) }, 6},
		{"Create(b, 6)", func() api.Errno { return p.Create("b", 6) }, 0},
		{"Resize(b, 1)", func() api.Errno { return p.Resize("b", 1) }, 5},
		{"Resize(a, 5)", func() api.Errno { return p.Resize("a", 5) }, 4},
		{"Remove(a)", func() api.Errno { return p.Remove("a") }, 9},
		{"Remove(b)", func() api.Errno { return p.Remove("b") }, 10},
	}
	for _, s := range steps {
		wants(t, s.what, s.do(), api.OK)
		if p.Free() != s.want {
			t.Errorf("behind %s: Free() = %d, want %d", s.what, p.Free(), s.want)
		}
	}
	for i := range 10 {
		p.Create(string(rune('a'+i)), 1)
		if p.Free() != 9-i {
			t.Errorf("Free() = %d, want %d", p.Free(), 9-i)
		}
	}
}

func TestP4Names(t *testing.T) {
	for _, name := range oddNames {
		want := api.ErrName
		if name == "a" || name == "b" || name == "abcdefghij" {
			want = api.OK
		}
		wants(t, fmt.Sprintf("Create(%.20q)", name), newPool(t, 1).Create(name, 1), want)
	}
	for i := range 256 {
		want := api.ErrName
		if i >= 'a' && i <= 'z' {
			want = api.OK
		}
		for _, name := range []string{string([]byte{byte(i)}), string([]byte{'a', byte(i)}), string([]byte{byte(i), 'a'})} {
			wants(t, fmt.Sprintf("Create(%q)", name), newPool(t, 1).Create(name, 1), want)
		}
	}
}

func TestP4Sizes(t *testing.T) {
	for _, n := range oddNumbers {
		want := api.OK
		if n < 1 || n > api.MaxBlocks {
			want = api.ErrArg
		}
		wants(t, fmt.Sprintf("Create(a, %d)", n), newPool(t, 200).Create("a", n), want)
	}
	p := newPool(t, 5)
	wants(t, "Create of more than the disk", p.Create("a", 6), api.ErrFull)
	wants(t, "Create of the largest size", p.Create("a", 200), api.ErrFull)
	wants(t, "Create of the whole disk", p.Create("a", 5), api.OK)
	wants(t, "Create on a full disk", p.Create("b", 1), api.ErrFull)
}

func TestP4TheLowestFreeBlocks(t *testing.T) {
	p := newPool(t, 10)
	p.Create("a", 3)
	p.Create("b", 2)
	p.Remove("a")
	wants(t, "Create(c, 4)", p.Create("c", 4), api.OK)
	wantsMap(t, p, "b", 3, 4)
	wantsMap(t, p, "c", 0, 1, 2, 5)
	wants(t, "Create(d, 5)", p.Create("d", 5), api.ErrFull)
	wants(t, "Create(d, 4)", p.Create("d", 4), api.OK)
	wantsMap(t, p, "d", 6, 7, 8, 9)
}

func TestP4ManyVolumes(t *testing.T) {
	p := newPool(t, 200)
	full(t, p)
	wants(t, "Create of one more", p.Create("u", 1), api.ErrMany)
	if p.Free() != 180 || len(p.List()) != 20 {
		t.Errorf("behind ErrMany: %d free, %d volumes", p.Free(), len(p.List()))
	}
	p.Remove("c")
	wants(t, "Create behind Remove", p.Create("u", 1), api.OK)
	wantsMap(t, p, "u", 2)
}

func TestP4ANewVolumeIsEmpty(t *testing.T) {
	p := newPool(t, 4)
	p.Create("a", 4)
	for i := range 4 {
		p.Write("a", i, x)
	}
	p.Remove("a")
	p.Create("b", 4)
	wantsBlocks(t, p, "b", api.Block{}, api.Block{}, api.Block{}, api.Block{})
}

func TestP5ReadAndWrite(t *testing.T) {
	p := newPool(t, 9)
	p.Create("a", 3)
	p.Create("b", 2)
	wants(t, "Write(a, 0)", p.Write("a", 0, x), api.OK)
	wants(t, "Write(a, 2)", p.Write("a", 2, y), api.OK)
	wants(t, "Write(b, 1)", p.Write("b", 1, x), api.OK)
	wants(t, "Write of what stands there", p.Write("b", 1, x), api.OK)
	wantsBlocks(t, p, "a", x, api.Block{}, y)
	wantsBlocks(t, p, "b", api.Block{}, x)
	wants(t, "Write over it", p.Write("a", 0, y), api.OK)
	wants(t, "Write of 0", p.Write("a", 2, api.Block{}), api.OK)
	wantsBlocks(t, p, "a", y, api.Block{}, api.Block{})
	for i := range api.BlockSize {
		b := y
		b[i]++
		p.Write("a", 0, y)
		p.Write("a", 0, b)
		wantsBlocks(t, p, "a", b, api.Block{}, api.Block{})
	}
}

func TestP5WrongPlacesAndNames(t *testing.T) {
	p := newPool(t, 9)
	p.Create("a", 2)
	p.Create("b", 2)
	p.Write("b", 0, x)
	for _, at := range oddNumbers {
		if at == 0 || at == 1 {
			continue
		}
		wants(t, fmt.Sprintf("Write(a, %d)", at), p.Write("a", at, y), api.ErrArg)
		if b, e := p.Read("a", at); b != (api.Block{}) || e != api.ErrArg {
			t.Errorf("Read(a, %d) = %v, %d", at, b, e)
		}
	}
	for _, name := range []string{"", "c", "aa", "A", "a\x00"} {
		wants(t, "Write of none", p.Write(name, 0, y), api.ErrNone)
		if b, e := p.Read(name, 0); b != (api.Block{}) || e != api.ErrNone {
			t.Errorf("Read(%q, 0) = %v, %d", name, b, e)
		}
	}
	wantsBlocks(t, p, "a", api.Block{}, api.Block{})
	wantsBlocks(t, p, "b", x, api.Block{})
}

func TestP6Resize(t *testing.T) {
	p := newPool(t, 9)
	p.Create("a", 2)
	p.Create("b", 2)
	p.Write("a", 1, x)
	wants(t, "more", p.Resize("a", 4), api.OK)
	wantsMap(t, p, "a", 0, 1, 4, 5)
	wantsBlocks(t, p, "a", api.Block{}, x, api.Block{}, api.Block{})
	wants(t, "as many", p.Resize("a", 4), api.OK)
	wantsMap(t, p, "a", 0, 1, 4, 5)
	p.Write("b", 0, y)
	p.Write("b", 1, x)
	wants(t, "fewer", p.Resize("b", 1), api.OK)
	wantsMap(t, p, "b", 2)
	wants(t, "more again", p.Resize("a", 5), api.OK)
	wantsMap(t, p, "a", 0, 1, 4, 5, 3)
	wantsBlocks(t, p, "a", api.Block{}, x, api.Block{}, api.Block{}, api.Block{})
	wantsBlocks(t, p, "b", y)
	wants(t, "all that there is", p.Resize("b", 4), api.OK)
	wantsMap(t, p, "b", 2, 6, 7, 8)
	wants(t, "one more than there is", p.Resize("b", 5), api.ErrFull)
	wants(t, "as many, of a full disk", p.Resize("b", 4), api.OK)
}

func TestP6ResizeSizes(t *testing.T) {
	for _, n := range oddNumbers {
		p := newPool(t, 200)
		p.Create("a", 8)
		want := api.OK
		if n < 1 || n > api.MaxBlocks {
			want = api.ErrArg
		}
		wants(t, fmt.Sprintf("Resize(a, %d)", n), p.Resize("a", n), want)
		if want == api.OK && (p.List()[0].Size != n || p.Free() != 200-n) {
			t.Errorf("behind Resize(a, %d): %s", n, state(p))
		}
	}
	p := newPool(t, 5)
	p.Create("a", 3)
	p.Create("b", 1)
	wants(t, "Resize(a, 5)", p.Resize("a", 5), api.ErrFull)
	wantsMap(t, p, "a", 0, 1, 2)
	wants(t, "Resize(a, 4)", p.Resize("a", 4), api.OK)
	wantsMap(t, p, "a", 0, 1, 2, 4)
	wants(t, "Resize of none", p.Resize("c", 1), api.ErrNone)
}

// What a volume gave away belongs to another one, whatever the first one grows into next.
func TestP6ShrinkAndGrowKeepToTheirOwn(t *testing.T) {
	p := newPool(t, 8)
	p.Create("a", 6)
	p.Resize("a", 2)
	p.Create("b", 3)
	p.Resize("a", 4)
	wantsMap(t, p, "a", 0, 1, 5, 6)
	wantsMap(t, p, "b", 2, 3, 4)
	p.Write("a", 2, x)
	p.Resize("a", 1)
	p.Resize("a", 4)
	wantsMap(t, p, "a", 0, 1, 5, 6)
	wantsBlocks(t, p, "a", api.Block{}, api.Block{}, api.Block{}, api.Block{})
}

func TestP6Remove(t *testing.T) {
	p := newPool(t, 9)
	for _, name := range []string{"b", "a", "d", "c"} {
		p.Create(name, 2)
	}
	p.Write("c", 0, x)
	wants(t, "Remove(b)", p.Remove("b"), api.OK)
	wants(t, "Remove(b) again", p.Remove("b"), api.ErrNone)
	wants(t, "Remove of no name", p.Remove(""), api.ErrNone)
	if p.Free() != 3 {
		t.Errorf("Free() = %d, want 3", p.Free())
	}
	wantsMap(t, p, "a", 2, 3)
	wantsMap(t, p, "c", 6, 7)
	wantsMap(t, p, "d", 4, 5)
	wantsBlocks(t, p, "c", x, api.Block{})
	wants(t, "Remove of the last", p.Remove("d"), api.OK)
	wants(t, "Remove of the first", p.Remove("a"), api.OK)
	wants(t, "Remove of the only one", p.Remove("c"), api.OK)
	if p.Free() != 9 || len(p.List()) != 0 {
		t.Errorf("behind all: %s", state(p))
	}
	wants(t, "Create behind all", p.Create("b", 9), api.OK)
	wantsMap(t, p, "b", 0, 1, 2, 3, 4, 5, 6, 7, 8)
}

func TestP7List(t *testing.T) {
	p := newPool(t, 30)
	if l := p.List(); len(l) != 0 {
		t.Errorf("List() of a new Pool = %v", l)
	}
	for i, name := range []string{"m", "b", "ab", "z", "a", "abcdefghij", "aa"} {
		p.Create(name, i+1)
	}
	want := []api.Volume{
		{Name: "a", Size: 5}, {Name: "aa", Size: 7}, {Name: "ab", Size: 3}, {Name: "abcdefghij", Size: 6},
		{Name: "b", Size: 2}, {Name: "m", Size: 1}, {Name: "z", Size: 4},
	}
	if l := p.List(); !slices.Equal(l, want) {
		t.Errorf("List() = %v, want %v", l, want)
	}
	p.Resize("b", 1)
	p.Remove("ab")
	want[4].Size = 1
	want = slices.Delete(want, 2, 3)
	if l := p.List(); !slices.Equal(l, want) {
		t.Errorf("List() = %v, want %v", l, want)
	}
}

func TestP7Map(t *testing.T) {
	p := newPool(t, 200)
	p.Create("a", 200)
	want := make([]int, 200)
	for i := range want {
		want[i] = i
	}
	wantsMap(t, p, "a", want...)
	for _, name := range []string{"", "b", "aa", "A"} {
		if l, e := p.Map(name); len(l) != 0 || e != api.ErrNone {
			t.Errorf("Map(%q) = %v, %d", name, l, e)
		}
	}
}
