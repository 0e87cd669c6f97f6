package strata

import "strata/api"

// mark is what each image begins with.
const mark = "STR1"

// The kinds of what there is, as an image has them.
const (
	kindVolume = iota
	kindPicture
	kindLost
)

// Image tells all as bytes (P8).
func (p *Pool) Image() []byte {
	if !p.made() {
		return nil
	}
	l := putNumber([]byte(mark), p.disk.Size())
	l = append(l, byte(len(p.volumes)))
	for _, v := range p.volumes {
		l = p.putVolume(l, v)
	}
	for n := range p.disk.Size() {
		b := p.disk.Read(n)
		l = append(l, b[:]...)
	}
	l = putNumber(l, sum(l))
	return l[:len(l):len(l)]
}

// putVolume puts an entry of the list behind l.
func (p *Pool) putVolume(l []byte, v *volume) []byte {
	l = append(l, byte(len(v.name)))
	l = append(l, v.name...)
	l = append(l, byte(v.kind()))
	l = putNumber(l, v.size())
	if !v.isPicture() {
		return putNumbers(l, v.blocks)
	}
	origin, _ := p.index(v.origin.name)
	l = append(l, byte(origin))
	l = putNumbers(l, v.blocks)
	return putNumbers(l, v.kept)
}

func (v *volume) kind() int {
	if v.lost {
		return kindLost
	}
	if v.isPicture() {
		return kindPicture
	}
	return kindVolume
}

// putNumbers puts behind l how many numbers there are, and these.
func putNumbers(l []byte, numbers []int) []byte {
	l = putNumber(l, len(numbers))
	for _, n := range numbers {
		l = putNumber(l, n)
	}
	return l
}

// putNumber puts a number of two bytes behind l.
func putNumber(l []byte, n int) []byte { return append(l, byte(n>>8), byte(n)) }

// sum is the SUM of bytes.
func sum(l []byte) int {
	n := 1
	for _, b := range l {
		n = (n*31 + int(b)) % 65521
	}
	return n
}

// splitSum parts an image into what stands ahead of its sum, and that sum; without room for a sum there is none.
func splitSum(image []byte) (ahead []byte, s int, ok bool) {
	n := len(image) - 2
	if n < 0 {
		return nil, 0, false
	}
	return image[:n:n], int(image[n])<<8 | int(image[n+1]), true
}

// Load makes a Pool out of its image (P8).
func Load(image []byte) (p *Pool, e api.Errno, at int) {
	defer func() {
		if given := recover(); given != nil {
			p, e, at = nil, api.ErrForm, placeOf(given)
		}
	}()
	ahead, s, ok := splitSum(image)
	if !ok || s != sum(ahead) {
		return nil, api.ErrSum, 0
	}
	r := &reader{bytes: ahead}
	return r.pool(), api.OK, 0
}
