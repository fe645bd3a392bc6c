package store

import (
	"cmp"
	"math"
	"slices"
	"testing"

	"reprise/api"
	"reprise/disk"
)

// place: where a float stands in the row of all of them, by its bits alone.
func place(bits uint64) int64 {
	switch {
	case isNaN(bits):
		return math.MaxInt64
	case bits>>63 == 1:
		return math.MinInt64 - int64(bits) - 1
	}
	return int64(bits)
}

func isNaN(bits uint64) bool { return bits<<1 > 2047<<53 }

// fitFor: whether chapter 4 calls a value fit, of one of the kinds.
func fitFor(kind int, v api.Value) bool {
	if !v.Has {
		return v.Bits == 0
	}
	return kind <= 2 || !isNaN(v.Bits) || v.Bits == api.QuietNaN
}

// merged: what chapter 4 makes of two fit values.
func merged(kind int, a api.Value, b api.Value) api.Value {
	switch {
	case !a.Has:
		return b
	case !b.Has:
		return a
	case kind <= 2:
		return val(a.Bits + b.Bits)
	case (place(a.Bits) < place(b.Bits)) == (kind == 3):
		return a
	}
	return b
}

// stand is a cell and the page in which it stands.
type stand struct {
	page int
	api.Cell
}

// state is what a store holds: its mark, and its cells in whatever order.
type state struct {
	mark  api.Mark
	cells []stand
}

func (s state) copied() state {
	m := s.mark
	m.Keys = slices.Clone(m.Keys)
	return state{m, slices.Clone(s.cells)}
}

// sorted: all cells, by their keys.
func (s state) sorted() []api.Cell {
	var list []api.Cell
	for _, c := range s.cells {
		list = append(list, c.Cell)
	}
	slices.SortFunc(list, func(a api.Cell, b api.Cell) int { return cmp.Compare(a.Key, b.Key) })
	return list
}

// in: the cells of a page, by their keys.
func (s state) in(page int) []api.Cell {
	s.cells = slices.DeleteFunc(slices.Clone(s.cells), func(c stand) bool { return c.page != page })
	return s.sorted()
}

// texts: the bytes of all pages.
func (s state) texts() []string {
	list := []string{markText(s.mark)}
	for page := 1; page <= 6; page++ {
		list = append(list, cellsText(s.in(page)...))
	}
	return list
}

// value: what P13.5 asks.
func (s state) value(key uint64, committed int) api.Value {
	for _, c := range s.cells {
		if c.Key == key && c.Batch <= committed {
			return c.Cur
		}
		if c.Key == key {
			return c.Prev
		}
	}
	return nothing
}

// begun: the state behind Begin of an attempt that P13.3 lets be opened.
func (s state) begun(batch int, attempt int, keys []uint64) state {
	next := state{mark: marked(batch, attempt, slices.Clone(keys)...)}
	for _, c := range s.cells {
		if batch == s.mark.Batch && c.Batch == batch && slices.Contains(s.mark.Keys, c.Key) {
			c.Cur, c.Batch = c.Prev, batch-1
		}
		if c.Prev.Has || c.Cur.Has {
			next.cells = append(next.cells, c)
		}
	}
	return next
}

// applied: the state behind Apply of a table that P13.4 takes; false, if there is no place for it.
func (s state) applied(kind int, table []api.Pair) (state, bool) {
	next := s.copied()
	for _, p := range table {
		i := slices.IndexFunc(next.cells, func(c stand) bool { return c.Key == p.Key })
		if i < 0 {
			page := 1
			for page <= 6 && len(next.in(page)) == full {
				page++
			}
			if page > 6 {
				return state{}, false
			}
			i = len(next.cells)
			next.cells = append(next.cells, stand{page, api.Cell{Key: p.Key}})
		}
		c := &next.cells[i]
		if c.Batch < s.mark.Batch {
			c.Prev, c.Batch = c.Cur, s.mark.Batch
		}
		c.Cur = merged(kind, c.Prev, p.Val)
	}
	return next, true
}

// model is a disk, the book on it, and the store in that; it keeps texts, which nobody can write over.
type model struct {
	image  []string
	off    bool
	armed  bool
	more   int
	writes int

	gen    uint64
	blocks []int
	home   int
	ended  bool

	kind int
	state
}

func (m *model) write(i int, text string) bool {
	if m.off || m.armed && m.more == 0 {
		m.off, m.armed = true, false
		return false
	}
	m.more--
	m.image[i] = text
	m.writes++
	return true
}

func (m *model) gone() bool {
	m.ended = m.ended || m.off
	return m.ended
}

// put: chapter 9's Put of the pages, in this order, whose texts are given; then the state is next.
func (m *model) put(order []int, texts []string, next state) api.Errno {
	if len(order) == 0 {
		return api.OK
	}
	if m.gen == top {
		return api.ErrRoom
	}
	blocks := slices.Clone(m.blocks)
	var used []int
	for _, page := range order {
		blocks[page] = 0
		if texts[page] == "" {
			continue
		}
		block := 2
		for slices.Contains(m.blocks, block) || slices.Contains(used, block) {
			block++
		}
		if !m.write(block, texts[page]) {
			m.ended = true
			return api.ErrDown
		}
		used = append(used, block)
		blocks[page] = block
	}
	if !m.write(1-m.home, rootText(m.gen+1, blocks...)) {
		m.ended = true
		return api.ErrDown
	}
	m.gen, m.blocks, m.home, m.state = m.gen+1, blocks, 1-m.home, next
	return api.OK
}

// changed: the cells' pages whose texts are others in next, in their order.
func (m *model) changed(next state) []int {
	var order []int
	was, is := m.texts(), next.texts()
	for page := 1; page <= 6; page++ {
		if was[page] != is[page] {
			order = append(order, page)
		}
	}
	return order
}

// isAttempt: whether there may be such an attempt.
func isAttempt(batch int, attempt int) bool {
	return batch >= 1 && batch <= top && attempt >= 1 && attempt <= top
}

func rises(keys []uint64) bool {
	for i := range keys {
		if i > 0 && keys[i] <= keys[i-1] {
			return false
		}
	}
	return true
}

func (m *model) begin(batch int, attempt int, keys []uint64) api.Errno {
	switch {
	case m.gone():
		return api.ErrDown
	case !isAttempt(batch, attempt) || !rises(keys) || len(keys) > most:
		return api.ErrArg
	case batch < m.mark.Batch || batch == m.mark.Batch && attempt < m.mark.Attempt:
		return api.ErrFenced
	case batch == m.mark.Batch && attempt == m.mark.Attempt && slices.Equal(keys, m.mark.Keys):
		return api.OK
	case batch == m.mark.Batch && attempt == m.mark.Attempt:
		return api.ErrTwice
	case batch > m.mark.Batch+1:
		return api.ErrAhead
	}
	next := m.begun(batch, attempt, keys)
	return m.put(append(m.changed(next), 0), next.texts(), next)
}

func (m *model) apply(batch int, attempt int, table []api.Pair) api.Errno {
	keys, outside, wrong := []uint64{}, false, false
	for _, p := range table {
		keys = append(keys, p.Key)
		outside = outside || !slices.Contains(m.mark.Keys, p.Key)
		wrong = wrong || !p.Val.Has || !fitFor(m.kind, p.Val)
	}
	switch {
	case m.gone():
		return api.ErrDown
	case !isAttempt(batch, attempt) || !rises(keys) || wrong:
		return api.ErrArg
	case batch < m.mark.Batch || batch == m.mark.Batch && attempt < m.mark.Attempt:
		return api.ErrFenced
	case batch != m.mark.Batch || attempt != m.mark.Attempt:
		return api.ErrAhead
	case outside:
		return api.ErrKey
	}
	next, placed := m.applied(m.kind, table)
	if !placed {
		return api.ErrRoom
	}
	return m.put(m.changed(next), next.texts(), next)
}

func (m *model) used() int {
	n := 0
	for _, block := range m.blocks {
		n += min(block, 1)
	}
	return n
}

// pairing is a store on a disk, and the model beside it: each call goes to both.
type pairing struct {
	*Store
	*model
	on *disk.Disk
}

// newPairing is a new store on a disk of so many blocks.
func newPairing(t *testing.T, blocks int, kind int) *pairing {
	t.Helper()
	d := loaded(t, make([]string, blocks))
	s, e := Format(d, kind)
	if s == nil || e != api.OK {
		t.Fatalf("Format of %d blocks with the kind %d is %v, %d", blocks, kind, s, e)
	}
	image := make([]string, blocks)
	image[0], image[1], image[2] = rootText(1, 0, 0, 0, 0, 0, 0, 0), rootText(2, 2, 0, 0, 0, 0, 0, 0), "\x00\x00\x00"
	return &pairing{s, &model{image: image, writes: 4, gen: 2, blocks: []int{2, 0, 0, 0, 0, 0, 0}, home: 1, kind: kind}, d}
}

// openPairing is the store of generation gen that storeAt makes an image of.
func openPairing(t *testing.T, kind int, gen uint64, opened api.Mark, cells ...[]api.Cell) *pairing {
	t.Helper()
	image := storeAt(gen, opened, cells...)
	d := loaded(t, image)
	s, e := Open(d, kind)
	if s == nil || e != api.OK {
		t.Fatalf("Open of %q with the kind %d is %v, %d", image, kind, s, e)
	}
	m := &model{image: image, gen: gen, kind: kind, state: state{mark: opened}}
	m.blocks = []int{2, 0, 0, 0, 0, 0, 0}
	for i, list := range cells {
		if len(list) > 0 {
			m.blocks[i+1] = slices.Max(m.blocks) + 1
		}
		for _, c := range list {
			m.cells = append(m.cells, stand{i + 1, c})
		}
	}
	return &pairing{s, m, d}
}

// begin: what is wanted is told beside the model, so that this one is held to the document too.
func (p *pairing) begin(t *testing.T, want api.Errno, batch int, attempt int, keys ...uint64) {
	t.Helper()
	if e := p.model.begin(batch, attempt, keys); e != want {
		t.Fatalf("the model's begin(%d, %d, %d) is %d, not %d", batch, attempt, keys, e, want)
	}
	wantBegin(t, p.Store, batch, attempt, keys, want)
}

func (p *pairing) apply(t *testing.T, want api.Errno, batch int, attempt int, table ...api.Pair) {
	t.Helper()
	if e := p.model.apply(batch, attempt, table); e != want {
		t.Fatalf("the model's apply(%d, %d, %v) is %d, not %d", batch, attempt, table, e, want)
	}
	wantApply(t, p.Store, batch, attempt, table, want)
}

// fill has batch's first attempt opened for these keys, and applied to all of them.
func (p *pairing) fill(t *testing.T, batch int, keys []uint64, bits uint64) {
	t.Helper()
	p.begin(t, api.OK, batch, 1, keys...)
	p.apply(t, api.OK, batch, 1, each(keys, bits)...)
}

func (p *pairing) arm(n int) {
	p.armed, p.more = n >= 0, n
	p.on.Cut(n)
}

func (p *pairing) turn(on bool) {
	p.off, p.armed = !on, false
	if on {
		p.on.On()
	} else {
		p.on.Off()
	}
}

// look holds what is told without an end to a store on a disk that is down to the model, and the disk to the byte.
func (p *pairing) look(t *testing.T) {
	t.Helper()
	if p.Used() != p.model.used() || p.Used() > 7 || p.Ended() != p.model.ended {
		t.Errorf("Used() and Ended() are %d and %t, not %d and %t", p.Used(), p.Ended(), p.model.used(), p.model.ended)
	}
	if p.on.Down() != p.off || p.on.Writes() != p.writes {
		t.Errorf("Down() and Writes() are %t and %d, not %t and %d", p.on.Down(), p.on.Writes(), p.off, p.writes)
	}
	wantImage(t, p.on, p.image)
}

// hold holds all that a store tells to the model too. One that may not be asked is left as it is.
func (p *pairing) hold(t *testing.T) {
	t.Helper()
	p.look(t)
	if p.off || p.model.ended {
		return
	}
	p.tells(t, p.Store)
	p.look(t)
}

// tells holds what a store tells to the model's state.
func (p *pairing) tells(t *testing.T, s *Store) {
	t.Helper()
	wantMark(t, s, p.mark, api.OK)
	wantCells(t, s, api.OK, p.sorted()...)
	keys := append([]uint64{0, 1, 500, lastKey}, p.mark.Keys...)
	for _, c := range p.model.cells {
		keys = append(keys, c.Key)
	}
	for _, key := range keys {
		for _, committed := range []int{p.mark.Batch - 2, p.mark.Batch - 1, p.mark.Batch, p.mark.Batch + 1} {
			wantQuery(t, s, key, committed, p.value(key, committed), api.OK)
		}
	}
}

// refused: a call that is refused neither reads on nor writes, and the power, which would go, stays.
func (p *pairing) refused(t *testing.T, call func()) {
	t.Helper()
	p.arm(0)
	call()
	p.arm(-1)
	p.look(t)
}

// openAnew opens the disk anew, and another one made of its image: both tell the model's state.
func (p *pairing) openAnew(t *testing.T) {
	t.Helper()
	for _, d := range []*disk.Disk{loaded(t, imageOf(p.on)), p.on} {
		s, e := Open(d, p.model.kind)
		if s == nil || e != api.OK {
			t.Fatalf("Open of %q is %v, %d", p.image, s, e)
		}
		p.Store = s
		p.tells(t, s)
	}
	p.model.ended = false
	p.hold(t)
}

// twin: the same store once more, on a disk of its own.
func (p *pairing) twin(t *testing.T) *pairing {
	t.Helper()
	d := loaded(t, imageOf(p.on))
	s, e := Open(d, p.model.kind)
	if s == nil || e != api.OK {
		t.Fatalf("Open of %q is %v, %d", p.image, s, e)
	}
	m := *p.model
	m.image, m.writes, m.state = slices.Clone(m.image), 0, m.state.copied()
	return &pairing{s, &m, d}
}
