package strata

import (
	"strata/api"
	"strata/disk"
)

// wrong is the place in an image where it is none. A reader that meets one panics with it, and Load catches it.
type wrong int

// must gives the reading up at a place, unless all is well there.
func must(well bool, at int) {
	if !well {
		panic(wrong(at))
	}
}

// placeOf tells where a reader gave up. Another panic is no fault of the image, and must not pass for one.
func placeOf(given any) int {
	at, ok := given.(wrong)
	if !ok {
		panic(given)
	}
	return int(at)
}

// reader reads what stands ahead of the sum of an image.
type reader struct {
	bytes []byte
	at    int // the place of what is read next
}

// entry is what the list of an image tells of a volume or picture. A picture's origin may stand behind it, so it is only numbered here, and the size told is held against the origin's later.
type entry struct {
	volume   *volume
	kind     int
	size     int
	origin   int // of a picture: its number in the list
	originAt int // the place of that
}

// next reads n bytes.
func (r *reader) next(n int) []byte {
	begin, end := r.at, r.at+n
	must(end <= len(r.bytes), len(r.bytes))
	r.at = end
	return r.bytes[begin:end:end]
}

// number reads a number of so many bytes, which must be low to high.
func (r *reader) number(width, low, high int) int {
	at, n := r.at, 0
	for _, b := range r.next(width) {
		n = n<<8 | int(b)
	}
	must(n >= low && n <= high, at)
	return n
}

// numbers reads so many numbers: seen must have each of them, and as one that was not seen yet.
func (r *reader) numbers(count int, seen []bool) []int {
	l := make([]int, count)
	for i := range l {
		at := r.at
		l[i] = r.number(2, 0, len(seen)-1)
		must(!seen[l[i]], at)
		seen[l[i]] = true
	}
	return l
}

// pool reads all.
func (r *reader) pool() *Pool {
	r.mark()
	taken := make([]bool, r.number(2, 1, api.MaxBlocks))
	list := r.list(taken)
	volumes := joined(list)
	d := r.disk(taken, volumes)
	must(r.at == len(r.bytes), r.at)
	return newPool(d, volumes)
}

// mark reads byte by byte: one that is another shows ahead of an end that comes too early.
func (r *reader) mark() {
	for i := range len(mark) {
		at := r.at
		must(r.next(1)[0] == mark[i], at)
	}
}

// list reads the entries, and takes their blocks.
func (r *reader) list(taken []bool) []entry {
	list := make([]entry, r.number(1, 0, api.MaxVolumes))
	ahead := ""
	for i := range list {
		list[i] = r.entry(ahead, len(list), taken)
		ahead = list[i].volume.name
	}
	return list
}

// entry reads one of count entries, whose name must stand behind the one ahead.
func (r *reader) entry(ahead string, count int, taken []bool) entry {
	v := &volume{name: r.name(ahead)}
	one := entry{volume: v}
	one.kind = r.number(1, kindVolume, kindLost)
	one.size = r.number(2, 1, api.MaxBlocks)
	if one.kind == kindVolume {
		v.blocks = r.numbers(r.number(2, one.size, one.size), taken)
		return one
	}
	one.originAt = r.at
	one.origin = r.number(1, 0, count-1)
	v.blocks = r.numbers(r.number(2, 1, one.size), taken)
	most := len(v.blocks)
	if one.kind == kindLost {
		v.lost, most = true, 0
	}
	v.kept = r.numbers(r.number(2, 0, most), make([]bool, one.size))
	return one
}

// name reads a name, which must stand behind the one ahead. Of the first that is empty, and every name stands behind it.
func (r *reader) name(ahead string) string {
	n := r.number(1, 1, api.MaxName)
	at := r.at
	name := string(r.next(n))
	must(isName(name) && name > ahead, at)
	return name
}

// joined gives the pictures their origins.
func joined(list []entry) []*volume {
	volumes := make([]*volume, len(list))
	for i, one := range list {
		volumes[i] = one.volume
		if one.kind == kindVolume {
			continue
		}
		origin := list[one.origin]
		must(origin.kind == kindVolume && origin.size == one.size, one.originAt)
		one.volume.origin = origin.volume
	}
	return volumes
}

// disk reads all blocks. They are all taken first, and then those given back that nobody has.
func (r *reader) disk(taken []bool, volumes []*volume) *disk.Disk {
	begin, count := r.at, len(taken)
	bytes := r.next(count * api.BlockSize)
	d := disk.New(count)
	d.Take(count)
	used := usedBlocks(count, volumes)
	var free []int
	for n := range count {
		at := n * api.BlockSize
		var b api.Block
		copy(b[:], bytes[at:])
		must(used[n] || b == api.Block{}, begin+at)
		d.Write(n, b)
		if !taken[n] {
			free = append(free, n)
		}
	}
	d.Give(free)
	return d
}

// usedBlocks tells of each block of a disk whether something may stand in it.
func usedBlocks(count int, volumes []*volume) []bool {
	used := make([]bool, count)
	for _, v := range volumes {
		for _, n := range v.used() {
			used[n] = true
		}
	}
	return used
}
