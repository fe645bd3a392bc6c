package store

import (
	"cmp"
	"slices"

	"reprise/api"
	"reprise/bucket"
	"reprise/cell"
	"reprise/mark"
)

const (
	// firstCells is the first page that holds cells.
	firstCells = markPage + 1
	// cellPages is how many pages hold cells.
	cellPages = api.StorePages - firstCells
)

// shelf is the cells of all pages that hold some, those of a page in order. A page's list is
// put anew and never written into: so a shelf that is copied as a value stays what it was.
type shelf [cellPages][]api.Cell

// cells: all of them, as they are on the disk; ErrNil, ErrDown, ErrStore.
func (s *Store) cells() (shelf, api.Errno) {
	var all shelf
	for i := range cellPages {
		b, e := s.page(firstCells + i)
		if e != api.OK {
			return shelf{}, e
		}
		cells, e := bucket.Decode(b)
		if e != api.OK {
			return shelf{}, api.ErrStore
		}
		all[i] = cells
	}
	return all, api.OK
}

// find: where a key has its cell, and the cell.
func (p *shelf) find(key uint64) (int, api.Cell, bool) {
	for i := range cellPages {
		if at, there := bucket.Find(p[i], key); there {
			return i, p[i][at], true
		}
	}
	return 0, api.Cell{}, false
}

// room: where a new cell has its place.
func (p *shelf) room() (int, bool) {
	for i := range cellPages {
		if len(p[i]) < api.PageCells {
			return i, true
		}
	}
	return 0, false
}

// apply: a key's cell is behind the batch's part; ErrRoom.
func (p *shelf) apply(kind int, batch int, part api.Pair) api.Errno {
	at, c, there := p.find(part.Key)
	if !there {
		at, there = p.room()
		c = api.Cell{Key: part.Key}
	}
	if !there {
		return api.ErrRoom
	}
	c, e := cell.Apply(kind, c, batch, part.Val)
	if e != api.OK {
		return e
	}
	p[at], e = bucket.Put(p[at], c)
	return e
}

// revert: what the opened attempt did is taken back.
func (p *shelf) revert(opened api.Mark) {
	for i := range cellPages {
		left := []api.Cell{}
		for _, c := range p[i] {
			if mark.Has(opened, c.Key) {
				c = cell.Revert(c, opened.Batch)
			}
			if !cell.Empty(c) {
				left = append(left, c)
			}
		}
		p[i] = left
	}
}

// changes: the pages whose cells are others than before, in their order.
func (p *shelf) changes(before shelf) []api.PageWrite {
	var list []api.PageWrite
	for i := range cellPages {
		if slices.Equal(p[i], before[i]) {
			continue
		}
		// Out of Decode, Apply and Revert come no cells but such as have bytes.
		b, _ := bucket.Encode(p[i])
		list = append(list, api.PageWrite{Page: firstCells + i, Data: b})
	}
	return list
}

// resolve: a key's value behind a committed batch.
func (p *shelf) resolve(key uint64, committed int) api.Value {
	_, c, there := p.find(key)
	if !there {
		return api.Value{}
	}
	return cell.Resolve(c, committed)
}

// sorted: all cells, by their keys.
func (p *shelf) sorted() []api.Cell {
	all := []api.Cell{}
	for i := range cellPages {
		all = append(all, p[i]...)
	}
	slices.SortFunc(all, func(a api.Cell, b api.Cell) int { return cmp.Compare(a.Key, b.Key) })
	return all
}

// right: whether these may be the cells of a store of this kind that has this mark.
func (p *shelf) right(kind int, opened api.Mark) bool {
	all := p.sorted()
	for i, c := range all {
		if i > 0 && all[i-1].Key == c.Key {
			return false
		}
		if !cell.Fit(kind, c) || cell.Empty(c) || !beside(opened, c) {
			return false
		}
	}
	return true
}

// beside: whether a cell may stand beside a mark. What the mark's batch did to it must be such as can be taken back.
func beside(opened api.Mark, c api.Cell) bool {
	return c.Batch < opened.Batch || c.Batch == opened.Batch && mark.Has(opened, c.Key)
}
