package disk

// lowest is a heap of block numbers: the one at i is at most as high as those at 2i+1 and 2i+2, so the lowest stands first.
type lowest []int

// upTo lists the numbers below n: being in order, they are a heap already.
func upTo(n int) lowest {
	h := make(lowest, n)
	for i := range h {
		h[i] = i
	}
	return h
}

func (h *lowest) push(n int) {
	*h = append(*h, n)
	h.rise(len(*h) - 1)
}

// pop takes the lowest number out, if there is one.
func (h *lowest) pop() (int, bool) {
	l := *h
	if len(l) == 0 {
		return 0, false
	}
	first, last := l[0], len(l)-1
	l[0] = l[last]
	*h = l[:last]
	h.sink(0)
	return first, true
}

func (h lowest) rise(i int) {
	for i > 0 {
		up := (i - 1) / 2
		if h[up] <= h[i] {
			return
		}
		h[up], h[i] = h[i], h[up]
		i = up
	}
}

func (h lowest) sink(i int) {
	for {
		down := h.lowerChild(i)
		if down == i {
			return
		}
		h[down], h[i] = h[i], h[down]
		i = down
	}
}

// lowerChild tells which of i and the two below it has the lowest number.
func (h lowest) lowerChild(i int) int {
	best := i
	for child := 2*i + 1; child <= 2*i+2 && child < len(h); child++ {
		if h[child] < h[best] {
			best = child
		}
	}
	return best
}
