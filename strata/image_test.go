package strata_test

import (
	"bytes"
	"fmt"
	"slices"
	"testing"

	"strata/api"
	"strata/strata"
)

// laid lays numbers (a byte each), texts and blocks one behind the other.
func laid(parts ...any) []byte {
	var l []byte
	for _, part := range parts {
		switch v := part.(type) {
		case int:
			l = append(l, byte(v))
		case string:
			l = append(l, v...)
		case []byte:
			l = append(l, v...)
		case api.Block:
			l = append(l, v[:]...)
		default:
			panic(fmt.Sprintf("can't be laid: %T", part))
		}
	}
	return l
}

// sumOf is the sum of bytes, by taking away what is too much.
func sumOf(body []byte) int {
	n := int64(1)
	for _, b := range body {
		n = 31*n + int64(b)
		for n >= 65521 {
			n -= 65521
		}
	}
	return int(n)
}

// sealed puts the sum behind a body, which stays as it is.
func sealed(body []byte) []byte {
	n := sumOf(body)
	return append(slices.Clone(body), byte(n/256), byte(n%256))
}

// wantsLoaded loads an image that is one.
func wantsLoaded(t *testing.T, image []byte) *strata.Pool {
	t.Helper()
	p, e, at := strata.Load(image)
	if p == nil || e != api.OK || at != 0 {
		t.Fatalf("Load(%v) = %v, %d, %d", image, p, e, at)
	}
	return p
}

// wantsWrong fails the test if a body is taken, or if another place is told. Under 0 there must be a Pool.
func wantsWrong(t *testing.T, what string, body []byte, place int) {
	t.Helper()
	p, e, at := strata.Load(sealed(body))
	if place < 0 {
		if p == nil || e != api.OK || at != 0 {
			t.Errorf("%s: Load = %d, %d, want a Pool", what, e, at)
		}
		return
	}
	if p != nil || e != api.ErrForm || at != place {
		t.Errorf("%s: Load = %d, %d, want ErrForm, %d (a Pool: %v)", what, e, at, place, p != nil)
	}
}

// base is the body of an image with a picture (of which one block of two is used), its origin, and a lost picture.
func base() []byte {
	return laid("STR1", 0, 8, 3, // 0, 4, 6
		1, "a", 1, 0, 3, 1, 0, 2, 0, 6, 0, 3, 0, 1, 0, 2, // 7: length, 8: name, 9: kind, 10: size, 12: origin, 13: number of blocks, 15, 17: blocks, 19: number of places, 21: place
		2, "bb", 0, 0, 3, 0, 3, 0, 0, 0, 1, 0, 5, // 23: length, 24: name, 26: kind, 27: size, 29: number of blocks, 31, 33, 35: blocks
		1, "c", 2, 0, 3, 1, 0, 1, 0, 4, 0, 0, // 37: length, 38: name, 39: kind, 40: size, 42: origin, 43: number of blocks, 45: block, 47: number of places
		one(10), one(11), zero, zero, zero, one(15), one(16), zero) // 49, 57, 65 (free), 73 (room), 81 (room), 89, 97, 105 (free)
}

const baseEnd = 113

func TestP8TheExample(t *testing.T) {
	want := []byte{'S', 'T', 'R', '1', 0, 1, 0, 0, 0, 0, 0, 0, 0, 0, 0, 108, 55}
	if got := newPool(t, 1).Image(); !bytes.Equal(got, want) {
		t.Errorf("Image() = %v, want %v", got, want)
	}
	p := wantsLoaded(t, want)
	if p.Free() != 1 || len(p.List()) != 0 {
		t.Errorf("Load of it: %s", state(p))
	}
}

func TestP8Image(t *testing.T) {
	p := newPool(t, 8)
	p.Create("bb", 2)
	p.Create("x", 1)
	p.Picture("c", "bb", 1)
	p.Resize("x", 2)
	p.Remove("x")
	p.Write("c", 1, x)
	p.Write("c", 0, x)
	wants(t, "Picture(a)", p.Picture("a", "bb", 2), api.OK)
	p.Write("bb", 1, x)
	p.Write("bb", 0, one(3))
	p.Write("a", 0, y)
	wants(t, "Create(d)", p.Create("d", 1), api.OK)
	want := sealed(laid("STR1", 0, 8, 4,
		1, "a", 1, 0, 2, 1, 0, 2, 0, 2, 0, 4, 0, 2, 0, 1, 0, 0,
		2, "bb", 0, 0, 2, 0, 2, 0, 0, 0, 1,
		1, "c", 2, 0, 2, 1, 0, 1, 0, 3, 0, 0,
		1, "d", 0, 0, 1, 0, 1, 0, 5,
		one(3), x, zero, zero, y, zero, zero, zero))
	if got := p.Image(); !bytes.Equal(got, want) {
		t.Errorf("Image() = %v, want %v", got, want)
	}
	q := wantsLoaded(t, want)
	if state(q) != state(p) {
		t.Errorf("Load of it: %s\nwant %s", state(q), state(p))
	}
}

func TestP8ImageOfTheLargest(t *testing.T) {
	p := newPool(t, 200)
	for i := range api.MaxVolumes {
		name := "abcdefghi" + string(rune('z'-i))
		wants(t, "Create("+name+")", p.Create(name, 10), api.OK)
		for at := range 10 {
			p.Write(name, at, api.Block{byte(i), byte(at), 7: 255})
		}
	}
	parts := []any{"STR1", 0, 200, 20}
	for i := range api.MaxVolumes { // by name, so the one that was made last comes first
		parts = append(parts, 10, "abcdefghi"+string(rune('g'+i)), 0, 0, 10, 0, 10)
		for at := range 10 {
			parts = append(parts, 0, 10*(19-i)+at)
		}
	}
	for n := range 200 {
		parts = append(parts, api.Block{byte(n / 10), byte(n % 10), 7: 255})
	}
	want := sealed(laid(parts...))
	if got := p.Image(); !bytes.Equal(got, want) {
		t.Errorf("Image() = %v, want %v", got, want)
	}
	if q := wantsLoaded(t, want); state(q) != state(p) || !bytes.Equal(q.Image(), want) {
		t.Errorf("Load of it: %s", state(q))
	}
}

func TestP8AndP9LoadAndGoOn(t *testing.T) {
	p := wantsLoaded(t, sealed(base()))
	wantsTold(t, p,
		api.Volume{Name: "a", Size: 3, Of: "bb", Room: 2, Kept: 1},
		api.Volume{Name: "bb", Size: 3},
		api.Volume{Name: "c", Size: 3, Of: "bb", Room: 1, Lost: true})
	wantsMap(t, p, "a", 6, 3)
	wantsMap(t, p, "bb", 0, 1, 5)
	wantsMap(t, p, "c", 4)
	wantsBlocks(t, p, "a", one(10), one(11), one(16))
	wantsBlocks(t, p, "bb", one(10), one(11), one(15))
	if got := p.Image(); !bytes.Equal(got, sealed(base())) {
		t.Errorf("Image() = %v, want %v", got, sealed(base()))
	}
	const a, b, c = "a[6 3] of bb, ", "; bb[0 1 5]: ", "; c[4] of bb, 0 of 1, lost:; "
	follow(t, p, []call{
		{"Read of the lost one", func() api.Errno { _, e := p.Read("c", 0); return e }, api.ErrLost, ""},
		{"Write(bb, 2, 1)", func() api.Errno { return p.Write("bb", 2, one(1)) }, api.OK, a + "1 of 2: 10 11 16" + b + "10 11 1" + c + "2 free"},
		{"Write(bb, 0, 2)", func() api.Errno { return p.Write("bb", 0, one(2)) }, api.OK, a + "2 of 2: 10 11 16" + b + "2 11 1" + c + "2 free"},
		{"Resize(bb)", func() api.Errno { return p.Resize("bb", 2) }, api.ErrBusy, ""},
		{"Revert(a)", func() api.Errno { return p.Revert("a") }, api.ErrBusy, ""},
		{"Create(d, 3)", func() api.Errno { return p.Create("d", 3) }, api.ErrFull, ""},
		{"Create(b, 1)", func() api.Errno { return p.Create("b", 1) }, api.OK, a + "2 of 2: 10 11 16; b[2]: 0" + b + "2 11 1" + c + "1 free"},
		{"Remove(c)", func() api.Errno { return p.Remove("c") }, api.OK, a + "2 of 2: 10 11 16; b[2]: 0" + b + "2 11 1; 2 free"},
		{"Revert(a) again", func() api.Errno { return p.Revert("a") }, api.OK, "b[2]: 0; bb[0 1 5]: 10 11 16; 4 free"},
		{"Resize(b)", func() api.Errno { return p.Resize("b", 5) }, api.OK, "b[2 3 4 6 7]: 0 0 0 0 0; bb[0 1 5]: 10 11 16; 0 free"},
	})
}

func TestP8Sum(t *testing.T) {
	good := sealed(base())
	wrong := [][]byte{nil, {}, {0}, {1}, {255}, {0, 0}, {1, 0}, {0, 2}, []byte("STR1"), append(slices.Clone(good), 0), good[:len(good)-1], good[:len(good)-2], good[1:]}
	for i := range good { // what is one byte off has never the same sum
		for _, d := range []byte{1, 2, 128, 255} {
			l := slices.Clone(good)
			l[i] += d
			wrong = append(wrong, l)
		}
	}
	swapped := slices.Clone(good)
	n := len(good)
	swapped[n-1], swapped[n-2] = swapped[n-2], swapped[n-1]
	for _, l := range append(wrong, swapped) {
		if p, e, at := strata.Load(l); p != nil || e != api.ErrSum || at != 0 {
			t.Errorf("Load(%v) = %v, %d, %d, want ErrSum, 0", l, p, e, at)
		}
	}
	wantsWrong(t, "nothing but a sum", nil, 0)
}

// A sum that is the right one only modulo 65521 is another one.
func TestP8SumIsBelow65521(t *testing.T) {
	body := base()
	for i := 0; sumOf(body) > 65535-65521; i++ {
		copy(body[49:], []byte{byte(i >> 16), byte(i >> 8), byte(i)})
	}
	n := sumOf(body)
	wantsLoaded(t, sealed(body))
	l := append(body, byte((n+65521)>>8), byte(n+65521))
	if p, e, at := strata.Load(l); p != nil || e != api.ErrSum || at != 0 {
		t.Errorf("Load with the sum %d for %d = %v, %d, %d", n+65521, n, p, e, at)
	}
}

func TestP8AnEndThatComesTooEarlyOrTooLate(t *testing.T) {
	body := base()
	if len(body) != baseEnd {
		t.Fatalf("%d bytes", len(body))
	}
	for n := range body {
		wantsWrong(t, fmt.Sprintf("%d bytes", n), body[:n], n)
	}
	for _, more := range [][]byte{{0}, {1}, {0, 0}, []byte("STR1"), make([]byte, 8), body} {
		wantsWrong(t, fmt.Sprintf("%v behind all", more), laid(body, more), baseEnd)
	}
	wantsWrong(t, "all", body, -1)
}

// edit lets another byte stand somewhere.
type edit struct {
	at    int
	value byte
}

func edited(body []byte, edits ...edit) []byte {
	l := slices.Clone(body)
	for _, e := range edits {
		l[e.at] = e.value
	}
	return l
}

// Each case is one byte of base that is another one, and the place that must be told: -1, if nothing is wrong then.
func TestP8EachPlaceThatCanBeWrong(t *testing.T) {
	for _, c := range []struct {
		edit
		place int
	}{
		{edit{0, 's'}, 0}, {edit{1, 0}, 1}, {edit{2, 'r'}, 2}, {edit{3, '2'}, 3},
		{edit{5, 0}, 4}, {edit{5, 201}, 4}, {edit{5, 255}, 4}, {edit{4, 1}, 4}, {edit{4, 255}, 4},
		{edit{5, 200}, baseEnd}, {edit{5, 9}, baseEnd}, {edit{5, 7}, 105}, {edit{5, 6}, 15}, {edit{5, 1}, 15},
		{edit{6, 21}, 6}, {edit{6, 255}, 6}, {edit{6, 20}, 50}, {edit{6, 4}, 50}, {edit{6, 1}, 12}, {edit{6, 0}, 7},

		{edit{7, 0}, 7}, {edit{7, 11}, 7}, {edit{7, 255}, 7}, {edit{7, 2}, 8}, {edit{7, 10}, 8}, {edit{23, 0}, 23}, {edit{23, 11}, 23}, {edit{37, 11}, 37},
		{edit{8, 'A'}, 8}, {edit{8, '`'}, 8}, {edit{8, '{'}, 8}, {edit{8, 0}, 8}, {edit{8, 0xe4}, 8}, {edit{24, 'B'}, 24}, {edit{25, 'B'}, 24}, {edit{25, 0}, 24}, {edit{38, ' '}, 38},
		{edit{8, 'b'}, -1}, {edit{8, 'c'}, 24}, {edit{8, 'z'}, 24}, {edit{38, 'b'}, 38}, {edit{38, 'a'}, 38}, {edit{38, 'z'}, -1}, {edit{24, 'a'}, -1}, {edit{24, 'c'}, 38},

		{edit{9, 3}, 9}, {edit{9, 255}, 9}, {edit{9, 0}, 12}, {edit{9, 2}, 19}, {edit{26, 3}, 26}, {edit{26, 1}, 30}, {edit{39, 3}, 39}, {edit{39, 1}, -1},
		{edit{11, 0}, 10}, {edit{11, 201}, 10}, {edit{10, 1}, 10}, {edit{11, 1}, 13}, {edit{11, 2}, 21}, {edit{11, 4}, 12}, {edit{11, 200}, 12}, {edit{28, 0}, 27}, {edit{28, 201}, 27}, {edit{27, 1}, 27}, {edit{40, 1}, 40},
		{edit{12, 3}, 12}, {edit{12, 255}, 12}, {edit{12, 0}, 12}, {edit{12, 2}, 12}, {edit{42, 3}, 42}, {edit{42, 0}, 42}, {edit{42, 2}, 42}, {edit{41, 4}, 42}, {edit{41, 1}, 42},

		{edit{14, 0}, 13}, {edit{14, 4}, 13}, {edit{13, 1}, 13}, {edit{30, 2}, 29}, {edit{30, 4}, 29}, {edit{30, 0}, 29}, {edit{29, 1}, 29}, {edit{28, 2}, 29}, {edit{28, 4}, 29}, {edit{44, 0}, 43}, {edit{44, 4}, 43},
		{edit{16, 8}, 15}, {edit{15, 1}, 15}, {edit{16, 7}, 97}, {edit{18, 8}, 17}, {edit{18, 6}, 17}, {edit{16, 3}, 17}, {edit{32, 6}, 31}, {edit{32, 3}, 31}, {edit{32, 1}, 33}, {edit{34, 0}, 33}, {edit{36, 8}, 35}, {edit{35, 1}, 35}, {edit{46, 0}, 45}, {edit{46, 6}, 45}, {edit{46, 8}, 45}, {edit{46, 2}, -1}, {edit{18, 7}, -1},

		{edit{20, 3}, 19}, {edit{19, 1}, 19}, {edit{20, 0}, 21}, {edit{48, 1}, 47}, {edit{47, 1}, 47}, {edit{48, 2}, 47},
		{edit{22, 3}, 21}, {edit{22, 200}, 21}, {edit{21, 1}, 21}, {edit{22, 0}, -1}, {edit{22, 1}, -1},

		{edit{49, 1}, -1}, {edit{57, 0}, -1}, {edit{96, 1}, -1}, {edit{104, 1}, -1},
		{edit{65, 1}, 65}, {edit{72, 255}, 65}, {edit{73, 1}, 73}, {edit{80, 128}, 73}, {edit{81, 1}, 81}, {edit{88, 1}, 81}, {edit{105, 1}, 105}, {edit{112, 1}, 105},
	} {
		wantsWrong(t, fmt.Sprintf("%d at %d", c.value, c.at), edited(base(), c.edit), c.place)
	}
}

// What of several things shows first.
func TestP8WhichShowsFirst(t *testing.T) {
	// One byte at each place that is checked, in the order in which they show. With all from one on, that one is told.
	order := []struct {
		edit
		place int
	}{
		{edit{0, 'X'}, 0}, {edit{1, 'X'}, 1}, {edit{2, 'X'}, 2}, {edit{3, 'X'}, 3}, {edit{5, 0}, 4}, {edit{6, 21}, 6},
		{edit{7, 0}, 7}, {edit{8, 'A'}, 8}, {edit{9, 3}, 9}, {edit{10, 1}, 10}, {edit{12, 3}, 12}, {edit{13, 1}, 13}, {edit{15, 1}, 15}, {edit{17, 1}, 17}, {edit{19, 1}, 19}, {edit{21, 1}, 21},
		{edit{23, 0}, 23}, {edit{25, 'B'}, 24}, {edit{26, 3}, 26}, {edit{27, 1}, 27}, {edit{29, 1}, 29}, {edit{31, 1}, 31}, {edit{33, 1}, 33}, {edit{35, 1}, 35},
		{edit{37, 0}, 37}, {edit{38, 'A'}, 38}, {edit{39, 3}, 39}, {edit{40, 1}, 40}, {edit{42, 3}, 42}, {edit{43, 1}, 43}, {edit{45, 1}, 45}, {edit{47, 1}, 47},
		{edit{12, 2}, 12}, {edit{42, 0}, 42}, {edit{72, 1}, 65}, {edit{73, 1}, 73}, {edit{88, 1}, 81}, {edit{105, 1}, 105},
	}
	for i, c := range order {
		all := base()
		for _, later := range slices.Backward(order[i:]) {
			all[later.at] = later.value
		}
		wantsWrong(t, fmt.Sprintf("all from place %d on", c.place), all, c.place)
		wantsWrong(t, fmt.Sprintf("all from place %d on, and one byte more", c.place), laid(all, 0), c.place)
	}
	origin, block := edit{42, 0}, edit{65, 1}
	for _, c := range []struct {
		what  string
		body  []byte
		place int
	}{
		{"an origin ahead of an end within the blocks", edited(base(), origin)[:baseEnd-1], 42},
		{"an origin ahead of an end right behind the list", edited(base(), origin)[:49], 42},
		{"an end within the list ahead of an origin", edited(base(), origin)[:48], 48},
		{"the first of two origins", edited(base(), edit{12, 0}, origin), 12},
		{"the list ahead of an origin", edited(base(), edit{12, 0}, edit{47, 1}), 47},
		{"an end within the blocks ahead of one that is not 0", edited(base(), block)[:baseEnd-1], baseEnd - 1},
		{"an end right behind a block that is not 0", edited(base(), block)[:73], 73},
		{"a block that is not 0 ahead of what is behind all", laid(edited(base(), block), 0), 65},
		{"the first of two blocks that are not 0", edited(base(), edit{112, 1}, block), 65},
		{"an end within the mark", []byte("ST"), 2},
		{"another mark ahead of the end", []byte("SR"), 1},
		{"an end within a number that is too great already", laid("STR1", 255), 5},
		{"an end within a name that is none already", laid("STR1", 0, 8, 1, 3, "aA"), 10},
		{"an end within a block's number that is too great already", edited(base(), edit{15, 1})[:16], 16},
	} {
		wantsWrong(t, c.what, c.body, c.place)
	}
}

func TestP8NamesStandInTheirOrder(t *testing.T) {
	volume := func(name string, block int) []byte { return laid(len(name), name, 0, 0, 1, 0, 1, 0, block) }
	for _, c := range []struct {
		ahead, name string
		well        bool
	}{
		{"a", "b", true}, {"b", "a", false}, {"a", "a", false}, {"a", "aa", true}, {"aa", "a", false}, {"b", "aa", false}, {"aa", "b", true},
		{"abcdefghij", "abcdefghij", false}, {"abcdefghij", "abcdefghik", true}, {"abcdefghij", "abcdefghi", false}, {"abcdefghi", "abcdefghij", true},
	} {
		place := 7 + len(volume(c.ahead, 0)) + 1
		if c.well {
			place = -1
		}
		wantsWrong(t, c.name+" behind "+c.ahead, laid("STR1", 0, 2, 2, volume(c.ahead, 0), volume(c.name, 1), x, y), place)
	}
}

// A place may be kept by two pictures, but by one not twice; a block is in the whole list but once.
func TestP8PlacesAndBlocksThatStoodAhead(t *testing.T) {
	picture := func(name string, blocks, places [2]int) []byte {
		return laid(1, name, 1, 0, 2, 2, 0, 2, 0, blocks[0], 0, blocks[1], 0, 2, 0, places[0], 0, places[1])
	}
	list := func(a, b []byte) []byte {
		return laid("STR1", 0, 6, 3, a, b, 1, "c", 0, 0, 2, 0, 2, 0, 0, 0, 1, x, y, x, y, x, y)
	}
	a := picture("a", [2]int{2, 3}, [2]int{0, 1})
	at := 7 + len(a)
	wantsWrong(t, "the same places of two", list(a, picture("b", [2]int{4, 5}, [2]int{0, 1})), -1)
	wantsWrong(t, "the same places of two, in another order", list(a, picture("b", [2]int{5, 4}, [2]int{1, 0})), -1)
	wantsWrong(t, "a place twice", list(a, picture("b", [2]int{4, 5}, [2]int{1, 1})), at+16)
	wantsWrong(t, "a block twice", list(a, picture("b", [2]int{4, 4}, [2]int{0, 1})), at+10)
	wantsWrong(t, "a block of the one ahead", list(a, picture("b", [2]int{4, 2}, [2]int{0, 1})), at+10)
	wantsWrong(t, "a block of the one behind", list(a, picture("b", [2]int{4, 1}, [2]int{0, 1})), at+18+9)
}

func TestP1ImageAndLoadOfNothing(t *testing.T) {
	made := wantsLoaded(t, sealed(base()))
	copied := *made
	var none *strata.Pool
	for what, p := range map[string]*strata.Pool{"nil": none, "empty": {}, "copied": &copied} {
		if l := p.Image(); len(l) != 0 {
			t.Errorf("%s: Image() = %v", what, l)
		}
		wants(t, what+": Create", p.Create("z", 1), api.ErrClosed)
		wants(t, what+": Remove", p.Remove("a"), api.ErrClosed)
	}
	if !bytes.Equal(made.Image(), sealed(base())) {
		t.Errorf("the Pool that was copied is now %s", state(made))
	}
}

func TestP2WhatIsLoadedIsNotKept(t *testing.T) {
	good := sealed(base())
	for _, want := range [][]byte{good, sealed(base()[:60]), sealed(laid(base(), 0)), sealed(edited(base(), edit{105, 1})), base()} {
		whole := append(slices.Clone(want), 1, 2, 3, 4, 5, 6, 7, 8)
		behind := slices.Clone(whole)
		p, _, _ := strata.Load(whole[:len(want)])
		if !bytes.Equal(whole, behind) {
			t.Errorf("Load wrote into %v: %v", behind, whole)
		}
		for i := range whole {
			whole[i] = 'z'
		}
		if p != nil && !bytes.Equal(p.Image(), want) {
			t.Errorf("Load kept what it was given: %v", p.Image())
		}
	}
	mine := slices.Clone(good)
	p := wantsLoaded(t, mine)
	p.Write("bb", 0, x)
	p.Write("a", 1, x)
	p.Create("ab", 2)
	p.Remove("c")
	p.Image()
	if !bytes.Equal(mine, good) {
		t.Errorf("a Pool wrote into what it was loaded from: %v", mine)
	}
}

func TestP2AnImageIsNew(t *testing.T) {
	p := wantsLoaded(t, sealed(base()))
	first, second := p.Image(), p.Image()
	first = first[:cap(first)]
	for i := range first {
		first[i] = 'z'
	}
	if third := p.Image(); !bytes.Equal(second, sealed(base())) || !bytes.Equal(third, second) {
		t.Errorf("what came out is shared: %v, %v", second, third)
	}
	p.Write("bb", 0, x)
	if !bytes.Equal(second, sealed(base())) {
		t.Errorf("an image went along with its Pool: %v", second)
	}
}

func TestP2LoadedPoolsKnowNothingOfEachOther(t *testing.T) {
	image := sealed(base())
	p, q := wantsLoaded(t, image), wantsLoaded(t, image)
	q.Write("bb", 0, x)
	q.Write("a", 2, x)
	q.Remove("c")
	q.Revert("a")
	q.Resize("bb", 8)
	if !bytes.Equal(p.Image(), image) || q.Free() != 0 {
		t.Errorf("%s\nand the other: %s", state(p), state(q))
	}
}
