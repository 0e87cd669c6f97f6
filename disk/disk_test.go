package disk

import (
	"slices"
	"testing"

	"strata/api"
)

// drain pops all that a heap has.
func drain(h *lowest) []int {
	var l []int
	for n, ok := h.pop(); ok; n, ok = h.pop() {
		l = append(l, n)
	}
	return l
}

func TestHeapTellsTheLowestFirst(t *testing.T) {
	for _, in := range [][]int{
		nil, {0}, {1, 0}, {0, 1}, {2, 1, 0}, {5, 3, 8, 1, 9, 2}, {9, 8, 7, 6, 5, 4, 3, 2, 1, 0}, {4, 0, 199, 3, 100, 7, 50, 1},
	} {
		var h lowest
		for _, n := range in {
			h.push(n)
		}
		want := slices.Sorted(slices.Values(in))
		if got := drain(&h); !slices.Equal(got, want) {
			t.Errorf("pushed %v, popped %v, want %v", in, got, want)
		}
	}
}

// All orders in which seven numbers can be pushed.
func TestHeapAtEveryOrder(t *testing.T) {
	want := []int{0, 1, 2, 3, 4, 5, 6}
	var try func(order, rest []int)
	try = func(order, rest []int) {
		if len(rest) == 0 {
			var h lowest
			for _, n := range order {
				h.push(n)
			}
			if got := drain(&h); !slices.Equal(got, want) {
				t.Fatalf("pushed %v, popped %v", order, got)
			}
		}
		for i, n := range rest {
			left := slices.Delete(slices.Clone(rest), i, i+1)
			try(append(order[:len(order):len(order)], n), left)
		}
	}
	try(nil, want)
}

func TestHeapUpTo(t *testing.T) {
	h := upTo(5)
	if got := drain(&h); !slices.Equal(got, []int{0, 1, 2, 3, 4}) {
		t.Errorf("upTo(5) pops %v", got)
	}
	if n, ok := h.pop(); n != 0 || ok {
		t.Errorf("an empty heap pops %d, %v", n, ok)
	}
}

func TestSizeStaysTheSame(t *testing.T) {
	d := New(5)
	d.Take(3)
	if d.Size() != 5 || d.Free() != 2 {
		t.Errorf("Size() = %d, Free() = %d, want 5, 2", d.Size(), d.Free())
	}
}

func TestTakeTheLowest(t *testing.T) {
	d := New(8)
	d.Take(6)
	d.Give([]int{4, 1, 3})
	got, e := d.Take(4)
	if e != api.OK || !slices.Equal(got, []int{1, 3, 4, 6}) {
		t.Errorf("Take(4) = %v, %d", got, e)
	}
	if d.Free() != 1 {
		t.Errorf("Free() = %d, want 1", d.Free())
	}
}

func TestTakeGivesBackWhatIsNotWhole(t *testing.T) {
	d := New(5)
	d.Take(2)
	for range 3 {
		if got, e := d.Take(4); got != nil || e != api.ErrFull || d.Free() != 3 {
			t.Fatalf("Take(4) of 3 = %v, %d; then free: %d", got, e, d.Free())
		}
	}
	if got, e := d.Take(3); e != api.OK || !slices.Equal(got, []int{2, 3, 4}) {
		t.Errorf("Take(3) behind it = %v, %d", got, e)
	}
	if got, e := d.Take(1); got != nil || e != api.ErrFull {
		t.Errorf("Take(1) of 0 = %v, %d", got, e)
	}
}

func TestGivenBlocksAreWiped(t *testing.T) {
	d := New(3)
	l, _ := d.Take(3)
	for _, n := range l {
		d.Write(n, api.Block{1, 7: byte(n)})
	}
	d.Give([]int{2, 0})
	if d.Read(0) != (api.Block{}) || d.Read(2) != (api.Block{}) {
		t.Errorf("a free block holds %v, %v", d.Read(0), d.Read(2))
	}
	if d.Read(1) != (api.Block{1, 7: 1}) {
		t.Errorf("a block that was not given holds %v", d.Read(1))
	}
}

func TestWipedBlocksStayTaken(t *testing.T) {
	d := New(4)
	l, _ := d.Take(3)
	for _, n := range l {
		d.Write(n, api.Block{1, 7: byte(n)})
	}
	d.Wipe([]int{2, 0})
	if d.Read(0) != (api.Block{}) || d.Read(1) != (api.Block{1, 7: 1}) || d.Read(2) != (api.Block{}) {
		t.Errorf("behind Wipe(2, 0): %v, %v, %v", d.Read(0), d.Read(1), d.Read(2))
	}
	if d.Free() != 1 {
		t.Errorf("Free() = %d, want 1", d.Free())
	}
}
