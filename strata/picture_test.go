package strata_test

import (
	"fmt"
	"slices"
	"strings"
	"testing"
	"unsafe"

	"strata/api"
	"strata/strata"
)

var zero api.Block

// call is one call, what it must answer, and what must be told behind it ("": the same as ahead of it).
type call struct {
	what string
	do   func() api.Errno
	want api.Errno
	told string
}

// short tells in few letters what there is: of each block one number, of what can't be read nothing.
func short(p *strata.Pool) string {
	var out strings.Builder
	for _, v := range p.List() {
		l, _ := p.Map(v.Name)
		fmt.Fprint(&out, v.Name, l)
		if v.Of != "" {
			fmt.Fprintf(&out, " of %s, %d of %d", v.Of, v.Kept, v.Room)
		}
		if v.Lost {
			out.WriteString(", lost")
		}
		out.WriteString(":")
		for i := range v.Size {
			if b, e := p.Read(v.Name, i); e == api.OK {
				fmt.Fprintf(&out, " %d", b[0])
			}
		}
		out.WriteString("; ")
	}
	fmt.Fprintf(&out, "%d free", p.Free())
	return out.String()
}

// follow does calls one behind the other.
func follow(t *testing.T, p *strata.Pool, calls []call) {
	t.Helper()
	for _, c := range calls {
		ahead, told := state(p), short(p)
		if c.told != "" {
			told = c.told
		}
		if got := c.do(); got != c.want || short(p) != told {
			t.Fatalf("%s = %d, %s\nwant %d, %s", c.what, got, short(p), c.want, told)
		}
		if c.told == "" && state(p) != ahead {
			t.Fatalf("%s changed %s\nto %s", c.what, ahead, state(p))
		}
	}
}

// wantsTold fails the test if List tells something else.
func wantsTold(t *testing.T, p *strata.Pool, want ...api.Volume) {
	t.Helper()
	if l := p.List(); !slices.Equal(l, want) {
		t.Errorf("List() = %+v, want %+v", l, want)
	}
}

// one is a block that is told by a number.
func one(n byte) api.Block { return api.Block{n} }

// withLost makes a Pool of 12 blocks with a volume a (4 places), a picture l of it that is lost, and a picture p of it that is not.
func withLost(t *testing.T) *strata.Pool {
	t.Helper()
	p := newPool(t, 12)
	wants(t, "Create(a)", p.Create("a", 4), api.OK)
	wants(t, "Picture(l)", p.Picture("l", "a", 1), api.OK)
	wants(t, "Write(l, 0)", p.Write("l", 0, x), api.OK)
	wants(t, "Write(l, 1)", p.Write("l", 1, x), api.ErrRoom)
	wants(t, "Picture(p)", p.Picture("p", "a", 2), api.OK)
	wants(t, "Write(p, 1)", p.Write("p", 1, y), api.OK)
	return p
}

func TestP4ToP7TheExample(t *testing.T) {
	p := newPool(t, 10)
	follow(t, p, []call{
		{"Create(a)", func() api.Errno { return p.Create("a", 4) }, api.OK, "a[0 1 2 3]: 0 0 0 0; 6 free"},
		{"Picture(p)", func() api.Errno { return p.Picture("p", "a", 2) }, api.OK, "a[0 1 2 3]: 0 0 0 0; p[4 5] of a, 0 of 2: 0 0 0 0; 4 free"},
		{"Write(a, 3, 1)", func() api.Errno { return p.Write("a", 3, one(1)) }, api.OK, "a[0 1 2 3]: 0 0 0 1; p[4 5] of a, 1 of 2: 0 0 0 0; 4 free"},
		{"Write(a, 3, 2)", func() api.Errno { return p.Write("a", 3, one(2)) }, api.OK, "a[0 1 2 3]: 0 0 0 2; p[4 5] of a, 1 of 2: 0 0 0 0; 4 free"},
		{"Write(p, 0, 3)", func() api.Errno { return p.Write("p", 0, one(3)) }, api.OK, "a[0 1 2 3]: 0 0 0 2; p[4 5] of a, 2 of 2: 3 0 0 0; 4 free"},
		{"Write(a, 1, 1)", func() api.Errno { return p.Write("a", 1, one(1)) }, api.OK, "a[0 1 2 3]: 0 1 0 2; p[4 5] of a, 0 of 2, lost:; 4 free"},
		{"Revert(p)", func() api.Errno { return p.Revert("p") }, api.ErrLost, ""},
		{"Remove(a)", func() api.Errno { return p.Remove("a") }, api.ErrBusy, ""},
		{"Remove(p)", func() api.Errno { return p.Remove("p") }, api.OK, "a[0 1 2 3]: 0 1 0 2; 6 free"},
		{"Remove(a) again", func() api.Errno { return p.Remove("a") }, api.OK, "10 free"},
	})
}

func TestP1NoCallOfPicturesPanics(t *testing.T) {
	p := withLost(t)
	for _, name := range append([]string{"l", "p"}, oddNames...) {
		for _, n := range oddNumbers {
			for _, of := range append([]string{"l", "p"}, oddNames...) {
				p.Picture(name, of, n)
			}
			p.Write(name, n, one(byte(n)))
			if b, e := p.Read(name, n); e != api.OK && b != zero {
				t.Errorf("Read(%q, %d) = %v beside %d", name, n, b, e)
			}
			p.Resize(name, n)
		}
		if l, e := p.Map(name); e != api.OK && len(l) != 0 {
			t.Errorf("Map(%q) = %v beside %d", name, l, e)
		}
		p.Revert(name)
		p.Remove(name)
	}
}

func TestP1AnErrorOfPicturesChangesNothing(t *testing.T) {
	p := withLost(t)
	follow(t, p, []call{
		{"Picture of no name", func() api.Errno { return p.Picture("P", "a", 1) }, api.ErrName, ""},
		{"Picture of a name that is there", func() api.Errno { return p.Picture("l", "a", 1) }, api.ErrExists, ""},
		{"Picture of none", func() api.Errno { return p.Picture("q", "z", 1) }, api.ErrNone, ""},
		{"Picture of a picture", func() api.Errno { return p.Picture("q", "p", 1) }, api.ErrPicture, ""},
		{"Picture of a lost picture", func() api.Errno { return p.Picture("q", "l", 1) }, api.ErrPicture, ""},
		{"Picture without room", func() api.Errno { return p.Picture("q", "a", 0) }, api.ErrArg, ""},
		{"Picture with too much room", func() api.Errno { return p.Picture("q", "a", 5) }, api.ErrArg, ""},
		{"Write ahead of a picture", func() api.Errno { return p.Write("p", -1, x) }, api.ErrArg, ""},
		{"Write behind a picture", func() api.Errno { return p.Write("p", 4, x) }, api.ErrArg, ""},
		{"Write of a lost picture", func() api.Errno { return p.Write("l", 0, x) }, api.ErrLost, ""},
		{"Write behind a volume with pictures", func() api.Errno { return p.Write("a", 4, x) }, api.ErrArg, ""},
		{"Resize of a picture", func() api.Errno { return p.Resize("p", 2) }, api.ErrPicture, ""},
		{"Resize of a lost picture", func() api.Errno { return p.Resize("l", 1) }, api.ErrPicture, ""},
		{"Resize of what has pictures", func() api.Errno { return p.Resize("a", 5) }, api.ErrBusy, ""},
		{"Resize to what it has", func() api.Errno { return p.Resize("a", 4) }, api.ErrBusy, ""},
		{"Remove of what has pictures", func() api.Errno { return p.Remove("a") }, api.ErrBusy, ""},
		{"Revert of none", func() api.Errno { return p.Revert("z") }, api.ErrNone, ""},
		{"Revert of no name", func() api.Errno { return p.Revert("") }, api.ErrNone, ""},
		{"Revert of a volume", func() api.Errno { return p.Revert("a") }, api.ErrPicture, ""},
		{"Revert of a lost picture", func() api.Errno { return p.Revert("l") }, api.ErrLost, ""},
		{"Revert beside a lost picture", func() api.Errno { return p.Revert("p") }, api.ErrBusy, ""},
		{"Create of a picture's name", func() api.Errno { return p.Create("p", 1) }, api.ErrExists, ""},
	})
	p.Create("b", 5)
	wants(t, "Picture on a full disk", p.Picture("q", "a", 1), api.ErrFull)
	wantsMap(t, p, "b", 7, 8, 9, 10, 11)
	p.Resize("b", 3)
	wants(t, "Picture with more room than is free", p.Picture("q", "a", 3), api.ErrFull)
	wants(t, "Picture with as much as is free", p.Picture("q", "a", 2), api.OK)
	wantsMap(t, p, "q", 10, 11)
}

func TestP1TheFirstErrorOfPicturesIsTold(t *testing.T) {
	p := withLost(t)
	p.Create("b", 5)
	wants(t, "Picture: ErrName ahead of ErrNone", p.Picture("", "z", 1), api.ErrName)
	wants(t, "Picture: ErrExists ahead of ErrNone", p.Picture("p", "z", 0), api.ErrExists)
	wants(t, "Picture: ErrExists of its own origin", p.Picture("a", "a", 1), api.ErrExists)
	wants(t, "Picture: ErrExists ahead of ErrPicture", p.Picture("p", "p", 1), api.ErrExists)
	wants(t, "Picture: ErrNone ahead of ErrArg", p.Picture("q", "z", 0), api.ErrNone)
	wants(t, "Picture: ErrNone of its own name", p.Picture("q", "q", 1), api.ErrNone)
	wants(t, "Picture: ErrPicture ahead of ErrArg", p.Picture("q", "p", 0), api.ErrPicture)
	wants(t, "Picture: ErrPicture ahead of ErrFull", p.Picture("q", "l", 1), api.ErrPicture)
	wants(t, "Picture: ErrArg ahead of ErrFull", p.Picture("q", "a", 5), api.ErrArg)
	wants(t, "Write: ErrLost ahead of ErrArg", p.Write("l", 4, x), api.ErrLost)
	if b, e := p.Read("l", -1); b != zero || e != api.ErrLost {
		t.Errorf("Read of a lost picture = %v, %d, want ErrLost", b, e)
	}
	wants(t, "Resize: ErrPicture ahead of ErrArg", p.Resize("p", 0), api.ErrPicture)
	wants(t, "Resize: ErrPicture ahead of ErrFull", p.Resize("p", 200), api.ErrPicture)
	wants(t, "Resize: ErrBusy ahead of ErrArg", p.Resize("a", 0), api.ErrBusy)
	wants(t, "Resize: ErrBusy ahead of ErrFull", p.Resize("a", 200), api.ErrBusy)
	wants(t, "Revert: ErrPicture ahead of ErrBusy", p.Revert("a"), api.ErrPicture)
	wants(t, "Revert: ErrLost ahead of ErrBusy", p.Revert("l"), api.ErrLost)

	q := newPool(t, 20)
	full(t, q)
	wants(t, "Picture: ErrArg ahead of ErrMany", q.Picture("z", "a", 2), api.ErrArg)
	wants(t, "Picture: ErrMany ahead of ErrFull", q.Picture("z", "a", 1), api.ErrMany)
	wants(t, "Picture: ErrExists ahead of ErrMany", q.Picture("b", "a", 1), api.ErrExists)
	wants(t, "Picture: ErrNone ahead of ErrMany", q.Picture("z", "y", 1), api.ErrNone)
}

func TestP1PicturesOfPoolsThatWereNotMade(t *testing.T) {
	made := withLost(t)
	before := state(made)
	copied := *made
	for i, p := range []*strata.Pool{nil, {}, &copied} {
		wants(t, fmt.Sprint("Picture, Pool ", i), p.Picture("q", "a", 1), api.ErrClosed)
		wants(t, fmt.Sprint("Picture of no name, Pool ", i), p.Picture("", "", 0), api.ErrClosed)
		wants(t, fmt.Sprint("Revert, Pool ", i), p.Revert("p"), api.ErrClosed)
		wants(t, fmt.Sprint("Revert of no name, Pool ", i), p.Revert(""), api.ErrClosed)
		wants(t, fmt.Sprint("Write, Pool ", i), p.Write("p", 2, x), api.ErrClosed)
	}
	if after := state(made); after != before {
		t.Errorf("%s is now %s", before, after)
	}
}

func TestP2NamesOfPicturesAreNotKept(t *testing.T) {
	p := newPool(t, 9)
	name, of := []byte("pic"), []byte("abc")
	p.Create("abc", 2)
	wants(t, "Picture", p.Picture(unsafe.String(&name[0], 3), unsafe.String(&of[0], 3), 1), api.OK)
	copy(name, "zzz")
	copy(of, "zzz")
	wantsTold(t, p, api.Volume{Name: "abc", Size: 2}, api.Volume{Name: "pic", Size: 2, Of: "abc", Room: 1})
}

func TestP2WhatPicturesTellIsNew(t *testing.T) {
	p := withLost(t)
	before := state(p)
	for _, name := range []string{"a", "l", "p"} {
		l, _ := p.Map(name)
		l = l[:cap(l)]
		for i := range l {
			l[i] = 77
		}
		_ = append(l[:0], 77)
	}
	l := p.List()
	l = l[:cap(l)]
	for i := range l {
		l[i] = api.Volume{Name: "mine", Of: "mine"}
	}
	if after := state(p); after != before {
		t.Errorf("what came out is shared: %s is now %s", before, after)
	}
}

func TestP2PicturesOfPoolsKnowNothingOfEachOther(t *testing.T) {
	p, q := withLost(t), withLost(t)
	before := state(p)
	q.Write("a", 0, x)
	q.Write("a", 2, x)
	q.Remove("l")
	q.Remove("p")
	q.Picture("p", "a", 4)
	q.Revert("p")
	if after := state(p); after != before {
		t.Errorf("%s is now %s", before, after)
	}
}

func TestP4PictureNames(t *testing.T) {
	for _, name := range oddNames {
		p := newPool(t, 5)
		p.Create("v", 2)
		want := api.ErrName
		if name == "a" || name == "b" || name == "abcdefghij" {
			want = api.OK
		}
		wants(t, fmt.Sprintf("Picture(%.20q)", name), p.Picture(name, "v", 1), want)
		wants(t, fmt.Sprintf("Picture of %.20q", name), p.Picture("q", name, 1), map[bool]api.Errno{true: api.ErrPicture, false: api.ErrNone}[want == api.OK])
	}
}

func TestP4PictureRoom(t *testing.T) {
	for _, room := range oddNumbers {
		p := newPool(t, 200)
		p.Create("a", 8)
		want := api.OK
		if room < 1 || room > 8 {
			want = api.ErrArg
		}
		wants(t, fmt.Sprintf("Picture(p, a, %d)", room), p.Picture("p", "a", room), want)
		if want == api.OK && (p.Free() != 192-room || p.List()[1] != api.Volume{Name: "p", Size: 8, Of: "a", Room: room}) {
			t.Errorf("behind Picture(p, a, %d): %s", room, state(p))
		}
	}
}

func TestP4PictureTakesTheLowestFreeBlocks(t *testing.T) {
	p := newPool(t, 10)
	p.Create("a", 2)
	p.Create("b", 3)
	p.Create("c", 2)
	p.Remove("a")
	p.Write("b", 1, x)
	wants(t, "Picture(p)", p.Picture("p", "b", 3), api.OK)
	wantsMap(t, p, "p", 0, 1, 7)
	wantsBlocks(t, p, "p", zero, x, zero)
	wants(t, "Picture of another one", p.Picture("q", "c", 1), api.OK)
	wants(t, "a second picture", p.Picture("r", "b", 1), api.OK)
	wantsMap(t, p, "q", 8)
	wantsMap(t, p, "r", 9)
	wants(t, "Picture on a full disk", p.Picture("s", "b", 1), api.ErrFull)
	p.Remove("p")
	wants(t, "Picture behind Remove", p.Picture("s", "b", 2), api.OK)
	wantsMap(t, p, "s", 0, 1)
}

func TestP4PicturesAreAmongTheMany(t *testing.T) {
	p := newPool(t, 200)
	p.Create("a", 2)
	for i := range api.MaxVolumes - 1 {
		wants(t, fmt.Sprint("Picture ", i), p.Picture(string(rune('b'+i)), "a", 1), api.OK)
	}
	wants(t, "one picture more", p.Picture("z", "a", 1), api.ErrMany)
	wants(t, "one volume more", p.Create("z", 1), api.ErrMany)
	p.Write("a", 0, x)
	p.Write("a", 1, x)
	wants(t, "one picture more beside lost ones", p.Picture("z", "a", 1), api.ErrMany)
	p.Remove("k")
	wants(t, "Picture behind Remove", p.Picture("z", "a", 1), api.OK)
	wantsMap(t, p, "z", 11)
	wantsBlocks(t, p, "z", x, x)
}

func TestP5WriteOfAVolumeIsKeptByItsPictures(t *testing.T) {
	p := newPool(t, 20)
	p.Create("a", 3)
	p.Create("b", 3)
	p.Write("a", 0, one(1))
	p.Picture("p", "a", 1)
	p.Picture("q", "a", 3)
	p.Picture("r", "b", 1)
	const rest = "r[10] of b, 0 of 1: 0 0 0; 9 free"
	follow(t, p, []call{
		{"Write of what stands there", func() api.Errno { return p.Write("a", 0, one(1)) }, api.OK, ""},
		{"Write of 0 over 0", func() api.Errno { return p.Write("a", 2, zero) }, api.OK, ""},
		{"Write(a, 0, 2)", func() api.Errno { return p.Write("a", 0, one(2)) }, api.OK, "a[0 1 2]: 2 0 0; b[3 4 5]: 0 0 0; p[6] of a, 1 of 1: 1 0 0; q[7 8 9] of a, 1 of 3: 1 0 0; " + rest},
		{"Write(a, 0, 3)", func() api.Errno { return p.Write("a", 0, one(3)) }, api.OK, "a[0 1 2]: 3 0 0; b[3 4 5]: 0 0 0; p[6] of a, 1 of 1: 1 0 0; q[7 8 9] of a, 1 of 3: 1 0 0; " + rest},
		{"Write of what stood there", func() api.Errno { return p.Write("a", 0, one(1)) }, api.OK, "a[0 1 2]: 1 0 0; b[3 4 5]: 0 0 0; p[6] of a, 1 of 1: 1 0 0; q[7 8 9] of a, 1 of 3: 1 0 0; " + rest},
		{"Write(a, 2, 4)", func() api.Errno { return p.Write("a", 2, one(4)) }, api.OK, "a[0 1 2]: 1 0 4; b[3 4 5]: 0 0 0; p[6] of a, 0 of 1, lost:; q[7 8 9] of a, 2 of 3: 1 0 0; " + rest},
		{"Write(a, 1, 5) beside a lost one", func() api.Errno { return p.Write("a", 1, one(5)) }, api.OK, "a[0 1 2]: 1 5 4; b[3 4 5]: 0 0 0; p[6] of a, 0 of 1, lost:; q[7 8 9] of a, 3 of 3: 1 0 0; " + rest},
		{"Write of what is kept, without room", func() api.Errno { return p.Write("a", 1, one(6)) }, api.OK, "a[0 1 2]: 1 6 4; b[3 4 5]: 0 0 0; p[6] of a, 0 of 1, lost:; q[7 8 9] of a, 3 of 3: 1 0 0; " + rest},
	})
}

func TestP5WriteOfAPicture(t *testing.T) {
	p := newPool(t, 9)
	p.Create("a", 4)
	p.Write("a", 3, one(1))
	p.Picture("p", "a", 2)
	p.Picture("q", "a", 1)
	follow(t, p, []call{
		{"Write of what stands in the origin", func() api.Errno { return p.Write("p", 3, one(1)) }, api.OK, ""},
		{"Write(p, 3, 2)", func() api.Errno { return p.Write("p", 3, one(2)) }, api.OK, "a[0 1 2 3]: 0 0 0 1; p[4 5] of a, 1 of 2: 0 0 0 2; q[6] of a, 0 of 1: 0 0 0 1; 2 free"},
		{"Write of what stands in the room", func() api.Errno { return p.Write("p", 3, one(2)) }, api.OK, ""},
		{"Write of what the origin holds, at a place that is kept", func() api.Errno { return p.Write("p", 3, one(1)) }, api.OK, "a[0 1 2 3]: 0 0 0 1; p[4 5] of a, 1 of 2: 0 0 0 1; q[6] of a, 0 of 1: 0 0 0 1; 2 free"},
		{"Write(a, 3, 7)", func() api.Errno { return p.Write("a", 3, one(7)) }, api.OK, "a[0 1 2 3]: 0 0 0 7; p[4 5] of a, 1 of 2: 0 0 0 1; q[6] of a, 1 of 1: 0 0 0 1; 2 free"},
		{"Write(p, 0, 3)", func() api.Errno { return p.Write("p", 0, one(3)) }, api.OK, "a[0 1 2 3]: 0 0 0 7; p[4 5] of a, 2 of 2: 3 0 0 1; q[6] of a, 1 of 1: 0 0 0 1; 2 free"},
		{"Write(p, 0, 4), kept, without room", func() api.Errno { return p.Write("p", 0, one(4)) }, api.OK, "a[0 1 2 3]: 0 0 0 7; p[4 5] of a, 2 of 2: 4 0 0 1; q[6] of a, 1 of 1: 0 0 0 1; 2 free"},
		{"Write of what stands there, without room", func() api.Errno { return p.Write("p", 1, zero) }, api.OK, ""},
		{"Write(p, 4), no place, without room", func() api.Errno { return p.Write("p", 4, one(5)) }, api.ErrArg, ""},
		{"Write(p, 1, 5), without room", func() api.Errno { return p.Write("p", 1, one(5)) }, api.ErrRoom, "a[0 1 2 3]: 0 0 0 7; p[4 5] of a, 0 of 2, lost:; q[6] of a, 1 of 1: 0 0 0 1; 2 free"},
		{"Write(p, 1, 5) again", func() api.Errno { return p.Write("p", 1, one(5)) }, api.ErrLost, ""},
		{"Write of 0 to a lost one", func() api.Errno { return p.Write("p", 0, zero) }, api.ErrLost, ""},
		{"Write(q, 3, 8)", func() api.Errno { return p.Write("q", 3, one(8)) }, api.OK, "a[0 1 2 3]: 0 0 0 7; p[4 5] of a, 0 of 2, lost:; q[6] of a, 1 of 1: 0 0 0 8; 2 free"},
	})
	for i := range 5 {
		if b, e := p.Read("p", i); b != zero || e != api.ErrLost {
			t.Errorf("Read(p, %d) = %v, %d, want ErrLost", i, b, e)
		}
	}
}

func TestP5PlacesOfAPicture(t *testing.T) {
	p := newPool(t, 9)
	p.Create("a", 2)
	p.Picture("p", "a", 1)
	before := state(p)
	for _, at := range oddNumbers {
		if at == 0 || at == 1 {
			continue
		}
		wants(t, fmt.Sprintf("Write(p, %d)", at), p.Write("p", at, x), api.ErrArg)
		if b, e := p.Read("p", at); b != zero || e != api.ErrArg {
			t.Errorf("Read(p, %d) = %v, %d, want ErrArg", at, b, e)
		}
	}
	if after := state(p); after != before {
		t.Errorf("%s is now %s", before, after)
	}
}

// Every byte of a block is kept, and tells one block from another.
func TestP5AllBytesAreKept(t *testing.T) {
	for i := range api.BlockSize {
		p := newPool(t, 9)
		p.Create("a", 1)
		p.Write("a", 0, x)
		p.Picture("p", "a", 1)
		b := x
		b[i]++
		p.Write("a", 0, b)
		wantsBlocks(t, p, "p", x)
		wantsBlocks(t, p, "a", b)
		wantsTold(t, p, api.Volume{Name: "a", Size: 1}, api.Volume{Name: "p", Size: 1, Of: "a", Room: 1, Kept: 1})
	}
}

func TestP6ResizeAndRemoveBesidePictures(t *testing.T) {
	p := withLost(t)
	p.Create("b", 1)
	follow(t, p, []call{
		{"Resize(b)", func() api.Errno { return p.Resize("b", 2) }, api.OK, "a[0 1 2 3]: 0 0 0 0; b[7 8]: 0 0; l[4] of a, 0 of 1, lost:; p[5 6] of a, 1 of 2: 0 0 0 0; 3 free"},
		{"Remove(p)", func() api.Errno { return p.Remove("p") }, api.OK, "a[0 1 2 3]: 0 0 0 0; b[7 8]: 0 0; l[4] of a, 0 of 1, lost:; 5 free"},
		{"Resize beside a lost one", func() api.Errno { return p.Resize("a", 5) }, api.ErrBusy, ""},
		{"Remove beside a lost one", func() api.Errno { return p.Remove("a") }, api.ErrBusy, ""},
		{"Remove(l)", func() api.Errno { return p.Remove("l") }, api.OK, "a[0 1 2 3]: 0 0 0 0; b[7 8]: 0 0; 6 free"},
		{"Resize(a)", func() api.Errno { return p.Resize("a", 6) }, api.OK, "a[0 1 2 3 4 5]: 0 0 0 0 0 0; b[7 8]: 0 0; 4 free"},
		{"Picture of all", func() api.Errno { return p.Picture("p", "a", 4) }, api.OK, "a[0 1 2 3 4 5]: 0 0 0 0 0 0; b[7 8]: 0 0; p[6 9 10 11] of a, 0 of 4: 0 0 0 0 0 0; 0 free"},
		{"Remove(b) beside pictures of another one", func() api.Errno { return p.Remove("b") }, api.OK, "a[0 1 2 3 4 5]: 0 0 0 0 0 0; p[6 9 10 11] of a, 0 of 4: 0 0 0 0 0 0; 2 free"},
	})
}

// A picture's blocks come back empty, and to whoever takes the lowest next.
func TestP6RemoveOfAPicture(t *testing.T) {
	p := newPool(t, 6)
	p.Create("a", 2)
	p.Picture("p", "a", 2)
	p.Write("p", 0, x)
	p.Write("p", 1, y)
	wants(t, "Remove(p)", p.Remove("p"), api.OK)
	wants(t, "Remove(p) again", p.Remove("p"), api.ErrNone)
	wantsBlocks(t, p, "a", zero, zero)
	p.Create("b", 4)
	wantsMap(t, p, "b", 2, 3, 4, 5)
	wantsBlocks(t, p, "b", zero, zero, zero, zero)
}

func TestP6Revert(t *testing.T) {
	p := newPool(t, 12)
	p.Create("a", 4)
	p.Create("b", 2)
	for i := range 4 {
		p.Write("a", i, one(byte(i+1)))
	}
	p.Picture("p", "a", 3)
	p.Picture("q", "b", 1)
	p.Write("a", 2, one(7))
	p.Write("a", 0, zero)
	p.Write("p", 3, one(9))
	p.Write("b", 0, one(5))
	const b, q = "b[4 5]: 5 0; ", "q[9] of b, 1 of 1: 0 0; "
	follow(t, p, []call{
		{"a second picture", func() api.Errno { return p.Picture("r", "a", 1) }, api.OK, "a[0 1 2 3]: 0 2 7 4; " + b + "p[6 7 8] of a, 3 of 3: 1 2 3 9; " + q + "r[10] of a, 0 of 1: 0 2 7 4; 1 free"},
		{"Revert beside it", func() api.Errno { return p.Revert("p") }, api.ErrBusy, ""},
		{"Revert of it", func() api.Errno { return p.Revert("r") }, api.ErrBusy, ""},
		{"Remove(r)", func() api.Errno { return p.Remove("r") }, api.OK, "a[0 1 2 3]: 0 2 7 4; " + b + "p[6 7 8] of a, 3 of 3: 1 2 3 9; " + q + "2 free"},
		{"Revert(p) beside a picture of another one", func() api.Errno { return p.Revert("p") }, api.OK, "a[0 1 2 3]: 1 2 3 9; " + b + q + "5 free"},
		{"Revert(p) again", func() api.Errno { return p.Revert("p") }, api.ErrNone, ""},
		{"Picture behind it", func() api.Errno { return p.Picture("p", "a", 4) }, api.OK, "a[0 1 2 3]: 1 2 3 9; " + b + "p[6 7 8 10] of a, 0 of 4: 1 2 3 9; " + q + "1 free"},
		{"Revert of what keeps nothing", func() api.Errno { return p.Revert("p") }, api.OK, "a[0 1 2 3]: 1 2 3 9; " + b + q + "5 free"},
		{"Resize behind it", func() api.Errno { return p.Resize("a", 6) }, api.OK, "a[0 1 2 3 6 7]: 1 2 3 9 0 0; " + b + q + "3 free"},
	})
}

// What Revert gives back is empty: the room held what stands in the origin now.
func TestP6RevertWipesTheRoom(t *testing.T) {
	p := newPool(t, 4)
	p.Create("a", 2)
	p.Picture("p", "a", 2)
	p.Write("p", 0, x)
	p.Write("p", 1, y)
	wants(t, "Revert(p)", p.Revert("p"), api.OK)
	wantsBlocks(t, p, "a", x, y)
	p.Create("b", 2)
	wantsBlocks(t, p, "b", zero, zero)
}

func TestP7ListAndMapOfPictures(t *testing.T) {
	p := withLost(t)
	p.Picture("b", "a", 4)
	p.Create("z", 1)
	p.Write("a", 3, x)
	wantsTold(t, p,
		api.Volume{Name: "a", Size: 4},
		api.Volume{Name: "b", Size: 4, Of: "a", Room: 4, Kept: 1},
		api.Volume{Name: "l", Size: 4, Of: "a", Room: 1, Lost: true},
		api.Volume{Name: "p", Size: 4, Of: "a", Room: 2, Kept: 2},
		api.Volume{Name: "z", Size: 1})
	wantsMap(t, p, "a", 0, 1, 2, 3)
	wantsMap(t, p, "b", 7, 8, 9, 10)
	wantsMap(t, p, "l", 4)
	wantsMap(t, p, "p", 5, 6)
	wantsMap(t, p, "z", 11)
	if l, e := p.Map("q"); len(l) != 0 || e != api.ErrNone {
		t.Errorf("Map(q) = %v, %d, want ErrNone", l, e)
	}
}

// Pictures taken one behind the other hold each its own time, whatever is written between.
func TestP10PicturesOfManyTimes(t *testing.T) {
	p := newPool(t, 100)
	p.Create("a", 3)
	names := []string{"m", "c", "x", "e", "k"}
	var want [][]api.Block
	for i, name := range names {
		p.Write("a", i%3, one(byte(10+i)))
		var now []api.Block
		for at := range 3 {
			b, _ := p.Read("a", at)
			now = append(now, b)
		}
		want = append(want, now)
		wants(t, "Picture", p.Picture(name, "a", 3), api.OK)
	}
	p.Write("c", 1, x)
	want[1][1] = x
	p.Write("x", 0, y)
	want[2][0] = y
	for at := range 3 {
		p.Write("a", at, one(99))
	}
	for i, name := range names {
		wantsBlocks(t, p, name, want[i]...)
	}
	p.Remove("c")
	for i, name := range names {
		if name != "c" {
			wantsBlocks(t, p, name, want[i]...)
		}
	}
	wantsBlocks(t, p, "a", one(99), one(99), one(99))
}
