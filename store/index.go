package store

import (
	"slices"
	"sort"
)

// pageKeys: how many keys a page has at most. It bounds what is moved when a key is laid between others.
const pageKeys = 32

// entry: a key that is there.
type entry struct {
	key     string
	version uint64
	record  []byte // the key's own record of the image, which every commit is measured by
	value   []byte // a piece of that record
}

// page: entries by rising keys, one at least.
type page []entry

// index: pages, each with greater keys than the one ahead of it. Lay and drop work in its memory, and answer what it is then.
type index []page

// find answers in which page, and at which place of it, a key stands or would stand.
func (x index) find(key string) (number, place int, there bool) {
	if len(x) == 0 {
		return 0, 0, false
	}
	above := sort.Search(len(x), func(i int) bool { return x[i][0].key > key })
	// A key that is below all others would stand in the first page.
	number = max(above-1, 0)
	p := x[number]
	place = sort.Search(len(p), func(i int) bool { return p[i].key >= key })
	return number, place, place < len(p) && p[place].key == key
}

func (x index) get(key string) (entry, bool) {
	number, place, there := x.find(key)
	if !there {
		return entry{}, false
	}
	return x[number][place], true
}

func (x index) lay(e entry) index {
	if len(x) == 0 {
		return index{page{e}}
	}
	number, place, there := x.find(e.key)
	if there {
		x[number][place] = e
		return x
	}
	x[number] = slices.Insert(x[number], place, e)
	if len(x[number]) > pageKeys {
		return x.split(number)
	}
	return x
}

func (x index) split(number int) index {
	p := x[number]
	half := len(p) / 2
	// Without spare room: what is laid into the first half must not reach the second one.
	x[number] = p[:half:half]
	return slices.Insert(x, number+1, p[half:])
}

func (x index) drop(key string) index {
	number, place, there := x.find(key)
	if !there {
		return x
	}
	x[number] = slices.Delete(x[number], place, place+1)
	if len(x[number]) == 0 {
		return slices.Delete(x, number, number+1)
	}
	return x
}

func (x index) clone() index {
	var out index
	for _, p := range x {
		out = append(out, slices.Clone(p))
	}
	return out
}

func (x index) size() int {
	n := 0
	for _, p := range x {
		n += len(p)
	}
	return n
}
