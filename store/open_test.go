package store

import (
	"math"
	"slices"
	"strings"
	"testing"

	"reprise/api"
)

// P13.1

func TestFormatOfNoDisk(t *testing.T) {
	for _, kind := range append(noKinds(), kinds()...) {
		if s, e := Format(nil, kind); s != nil || e != api.ErrNil {
			t.Errorf("Format(nil, %d) is %v, %d", kind, s, e)
		}
	}
}

// wantNoFormat: Format is refused ahead of the power, which would go, and nothing is on the disk that wasn't.
func wantNoFormat(t *testing.T, blocks int, kind int, want api.Errno) {
	t.Helper()
	for _, on := range []bool{true, false} {
		d := loaded(t, named(blocks))
		if on {
			d.Cut(0)
		} else {
			d.Off()
		}
		if s, e := Format(d, kind); s != nil || e != want || d.Down() == on || d.Reads() != 0 || d.Writes() != 0 {
			t.Errorf("Format of %d blocks with the kind %d is %v, %d; %d reads, %d writes", blocks, kind, s, e, d.Reads(), d.Writes())
		}
		wantImage(t, d, named(blocks))
	}
}

func TestFormatOfNoKind(t *testing.T) {
	for _, kind := range noKinds() {
		for _, blocks := range []int{1, 2, 15, 16, 64} {
			wantNoFormat(t, blocks, kind, api.ErrArg)
		}
	}
}

func TestFormatWithoutRoom(t *testing.T) {
	for blocks := 1; blocks < 16; blocks++ {
		for _, kind := range kinds() {
			wantNoFormat(t, blocks, kind, api.ErrRoom)
		}
	}
}

func TestFormatOfADiskThatIsDown(t *testing.T) {
	d := loaded(t, named(16))
	d.Off()
	if s, e := Format(d, 1); s != nil || e != api.ErrDown {
		t.Errorf("Format is %v, %d", s, e)
	}
	wantImage(t, d, named(16))
}

// formatted: what is on a disk of so many blocks with names behind so many of Format's writes.
func formatted(blocks int, writes int) []string {
	image := named(blocks)
	for i, block := range []struct {
		at   int
		text string
	}{{1, ""}, {0, "\x01\x07\x00\x00\x00\x00\x00\x00\x00"}, {2, "\x00\x00\x00"}, {1, "\x02\x07\x02\x00\x00\x00\x00\x00\x00"}} {
		if i < writes {
			image[block.at] = block.text
		}
	}
	return image
}

func TestFormatOfEachKindAndDisk(t *testing.T) {
	for _, blocks := range []int{16, 17, 18, 63, 64} {
		for _, kind := range kinds() {
			d := loaded(t, named(blocks))
			s, e := Format(d, kind)
			if s == nil || e != api.OK || d.Writes() != 4 {
				t.Fatalf("Format of %d blocks with the kind %d is %v, %d; %d writes", blocks, kind, s, e, d.Writes())
			}
			wantImage(t, d, formatted(blocks, 4))
			wantMark(t, s, api.Mark{}, api.OK)
			wantCells(t, s, api.OK)
			wantEnded(t, s, false)
			for _, key := range []uint64{0, 1, lastKey} {
				wantQuery(t, s, key, 0, nothing, api.OK)
				wantQuery(t, s, key, math.MaxInt, nothing, api.OK)
			}
			if s.Used() != 1 || d.Writes() != 4 {
				t.Errorf("Used() is %d; %d writes", s.Used(), d.Writes())
			}
			if again, e := Open(d, kind); again == nil || e != api.OK {
				t.Errorf("Open of a new store is %v, %d", again, e)
			}
		}
	}
}

// TestFormatTakesTheKind: what a kind doesn't let pass isn't taken.
func TestFormatTakesTheKind(t *testing.T) {
	for _, kind := range kinds() {
		p := newPairing(t, 16, kind)
		p.begin(t, api.OK, 1, 1, 2)
		want := api.OK
		if kind > 2 {
			want = api.ErrArg
		}
		p.apply(t, want, 1, 1, pairs(2, oddNaN)...)
		p.hold(t)
	}
}

func TestFormatWhileThePowerGoes(t *testing.T) {
	// Behind two writes and three there is a book, but it has no mark.
	for writes, want := range []api.Errno{api.ErrRoot, api.ErrRoot, api.ErrStore, api.ErrStore} {
		d := loaded(t, named(16))
		d.Cut(writes)
		if s, e := Format(d, 1); s != nil || e != api.ErrDown {
			t.Errorf("Format behind %d writes is %v, %d", writes, s, e)
		}
		wantImage(t, d, formatted(16, writes))
		d.On()
		if s, e := Open(d, 1); s != nil || e != want {
			t.Errorf("Open behind %d writes of Format is %v, %d", writes, s, e)
		}
		if s, e := Format(d, 1); s == nil || e != api.OK {
			t.Errorf("Format anew behind %d writes is %v, %d", writes, s, e)
		}
	}
	d := loaded(t, named(16))
	d.Cut(4)
	if s, e := Format(d, 1); s == nil || e != api.OK {
		t.Errorf("Format behind four writes is %v, %d", s, e)
	}
}

func TestFormatOverAStore(t *testing.T) {
	p := newPairing(t, 16, 1)
	p.fill(t, 1, rows(0, 40, 1), 3)
	s, e := Format(p.on, 2)
	if s == nil || e != api.OK {
		t.Fatalf("Format is %v, %d", s, e)
	}
	for range 2 {
		wantMark(t, s, api.Mark{}, api.OK)
		wantCells(t, s, api.OK)
		wantQuery(t, s, 1, 1, nothing, api.OK)
		s, _ = Open(p.on, 2)
	}
}

// P13.2: what isn't the store's fault.

func TestOpenOfNoDisk(t *testing.T) {
	for _, kind := range append(noKinds(), kinds()...) {
		if s, e := Open(nil, kind); s != nil || e != api.ErrNil {
			t.Errorf("Open(nil, %d) is %v, %d", kind, s, e)
		}
	}
}

// wantNoStore: Open is refused, and writes nothing.
func wantNoStore(t *testing.T, kind int, image []string, want api.Errno) {
	t.Helper()
	d := loaded(t, image)
	d.Cut(0)
	if s, e := Open(d, kind); s != nil || e != want || d.Down() || d.Writes() != 0 {
		t.Errorf("Open of %q with the kind %d is %v, %d, not %d; %d writes", image, kind, s, e, want, d.Writes())
	}
	wantImage(t, d, image)
}

// wantStore: Open is answered a store that has this mark and these cells, and writes nothing.
func wantStore(t *testing.T, kind int, image []string, opened api.Mark, cells ...api.Cell) {
	t.Helper()
	d := loaded(t, image)
	d.Cut(0)
	s, e := Open(d, kind)
	if s == nil || e != api.OK || d.Down() || d.Writes() != 0 {
		t.Fatalf("Open of %q with the kind %d is %v, %d; %d writes", image, kind, s, e, d.Writes())
	}
	wantEnded(t, s, false)
	wantMark(t, s, opened, api.OK)
	wantCells(t, s, api.OK, cells...)
	wantImage(t, d, image)
}

func TestOpenOfNoKind(t *testing.T) {
	for _, kind := range noKinds() {
		for _, image := range [][]string{storeOf(api.Mark{}), named(16), {""}, laidOut(1, "\x00\x00\x00"), storeOf(marked(1, 1, 5), []api.Cell{{Key: 5}})} {
			wantNoStore(t, kind, image, api.ErrArg)
			d := loaded(t, image)
			d.Off()
			if s, e := Open(d, kind); s != nil || e != api.ErrArg {
				t.Errorf("Open of a disk that is down with the kind %d is %v, %d", kind, s, e)
			}
		}
	}
}

func TestOpenOfADiskThatIsDown(t *testing.T) {
	for _, image := range [][]string{storeOf(api.Mark{}), named(16), {""}, laidOut(1, "\x00\x00\x00"), storeOf(marked(1, 1, 5), []api.Cell{{Key: 5}})} {
		d := loaded(t, image)
		d.Off()
		if s, e := Open(d, 1); s != nil || e != api.ErrDown || d.Reads() != 0 {
			t.Errorf("Open of a disk that is down is %v, %d", s, e)
		}
		wantImage(t, d, image)
	}
}

func TestOpenOfNoBook(t *testing.T) {
	few := storeOf(api.Mark{})[:15]
	for _, image := range [][]string{named(1), {""}, {"", ""}, named(15), named(16), make([]string, 64), few, append([]string{"", ""}, storeOf(api.Mark{})[2:]...)} {
		for _, kind := range kinds() {
			wantNoStore(t, kind, image, api.ErrRoot)
		}
	}
}

func TestOpenOfAnotherNumberOfPages(t *testing.T) {
	for _, opened := range []api.Mark{{}, marked(3, 300, 1, 128)} {
		for pages := 1; pages <= 8; pages++ {
			texts := make([]string, pages)
			texts[0] = markText(opened)
			if pages == 7 {
				wantStore(t, 1, laidOut(1, texts...), opened)
				continue
			}
			wantNoStore(t, 1, laidOut(1, texts...), api.ErrStore)
		}
	}
}

// P13.2: the mark's page.

func TestOpenOfNoMark(t *testing.T) {
	long := markText(marked(1, 1, rows(0, most+1, 1)...))
	texts := []string{
		"", "\x00", "\x00\x00", "\x00\x00\x00\x00", "\x01", "no mark", strings.Repeat("\x00", 1024), strings.Repeat("\xff", 1024),
		markText(marked(1, 0)), markText(marked(0, 1)), markText(marked(0, 0, 1)), markText(marked(1, 1)) + "\x00", long,
		markText(marked(top+1, 1)), markText(marked(1, top+1)), "\x80\x00\x00\x00", "\x81\x00\x01\x00", "\x01\x01\x80\x00", "\x01\x01\x01\x85\x00",
	}
	for _, keys := range notRising() {
		texts = append(texts, markText(marked(1, 1, keys...)))
	}
	right := markText(marked(3, 300, 1, 128, lastKey))
	for n := range right {
		texts = append(texts, right[:n])
	}
	for _, text := range texts {
		wantNoStore(t, 1, laidOut(1, text, "", "", "", "", "", ""), api.ErrStore)
		wantNoStore(t, 3, laidOut(1, text, cellsText(at(5, of(nothing, val(3), 1))), "", "", "", "", ""), api.ErrStore)
	}
}

func TestOpenOfEachMark(t *testing.T) {
	for _, opened := range []api.Mark{{}, marked(1, 1), marked(top, top), marked(1, top, 0), marked(top, 1, lastKey), marked(3, 300, rows(0, most, 1)...), marked(7, 7, rows(lastKey-most+1, most, 1)...)} {
		for _, kind := range kinds() {
			wantStore(t, kind, storeOf(opened), opened)
		}
	}
}

// P13.2: the cells' pages.

// onEach: the image of a store with this mark and this text as one of its cells' pages, beside others with cells; one for each page.
func onEach(opened api.Mark, text string) [][]string {
	var list [][]string
	for page := 1; page <= 6; page++ {
		texts := []string{markText(opened)}
		for i := 1; i <= 6; i++ {
			texts = append(texts, cellsText(at(uint64(1000*i), of(nothing, val(1), 1))))
		}
		texts[page] = text
		list = append(list, laidOut(1, texts...))
	}
	return list
}

func TestOpenOfPagesThatAreNoCells(t *testing.T) {
	opened := marked(3, 300, 2, 5, 9)
	right := cellsText(at(2, of(val(1), val(2), 3)), at(5, of(nothing, val(3), 1)))
	texts := []string{
		"\x00", "\x11", "\xff", "no cells", strings.Repeat("\x00", 1024), strings.Repeat("\xff", 1024), right + "\x00", "\x80\x00",
		"\x01\x05\x04" + word(3) + "\x01", "\x01\x05\x02" + word(3) + number(top+1), "\x01\x85\x00\x02" + word(3) + "\x01", "\x01\x05\x02" + word(3) + "\x81\x00",
		cellsText(at(5, of(nothing, val(3), 1)), at(5, of(nothing, val(3), 1))), cellsText(at(5, of(nothing, val(3), 1)), at(2, of(nothing, val(3), 1))),
	}
	for n := 1; n < len(right); n++ {
		texts = append(texts, right[:n])
	}
	many := []api.Cell{}
	for _, key := range rows(20, full+1, 1) {
		many = append(many, at(key, of(nothing, val(1), 1)))
	}
	texts = append(texts, cellsText(many...))
	for _, text := range texts {
		for _, image := range onEach(opened, text) {
			wantNoStore(t, 1, image, api.ErrStore)
		}
	}
	for _, text := range []string{right, cellsText(many[:full]...), ""} {
		for _, image := range onEach(opened, text) {
			if s, e := Open(loaded(t, image), 1); s == nil || e != api.OK {
				t.Errorf("Open of %q is %v, %d", image, s, e)
			}
		}
	}
}

// wantOnEach: whether a store with this mark may have this cell, in whichever page and place it stands.
func wantOnEach(t *testing.T, kind int, opened api.Mark, c api.Cell, right bool) {
	t.Helper()
	first, last := at(c.Key-1, of(val(1), val(1), 0)), at(c.Key+1, of(val(1), val(1), 0))
	for _, cells := range [][]api.Cell{{c}, {first, c}, {c, last}, {first, c, last}} {
		for page := 1; page <= 6; page++ {
			lists := make([][]api.Cell, 6)
			lists[page-1] = cells
			if right {
				wantStore(t, kind, storeOf(opened, lists...), opened, cells...)
			} else {
				wantNoStore(t, kind, storeOf(opened, lists...), api.ErrStore)
			}
		}
	}
}

func TestOpenOfCellsThatAreNotFit(t *testing.T) {
	opened := marked(3, 300, 5)
	for _, kind := range kinds() {
		for _, bits := range []uint64{oddNaN, lastKey, 2047<<52 | 1, api.QuietNaN + 1, api.QuietNaN | 1<<63} {
			for _, c := range []api.Cell{of(val(bits), val(1), 3), of(val(1), val(bits), 3), of(val(bits), nothing, 3), of(nothing, val(bits), 2), of(val(bits), val(bits), 0)} {
				wantOnEach(t, kind, opened, at(5, c), kind <= 2)
			}
		}
		for _, bits := range []uint64{0, 1, 1 << 63, 2047 << 52, 4095 << 52, api.QuietNaN} {
			wantOnEach(t, kind, opened, at(5, of(val(bits), val(bits), 3)), true)
		}
	}
}

func TestOpenOfEmptyCells(t *testing.T) {
	for _, kind := range kinds() {
		for batch := range 4 {
			wantOnEach(t, kind, marked(3, 300, 5), at(5, of(nothing, nothing, batch)), false)
			wantOnEach(t, kind, marked(3, 300, 5), at(5, of(val(1), nothing, batch)), true)
			wantOnEach(t, kind, marked(3, 300, 5), at(5, of(nothing, val(1), batch)), true)
		}
	}
}

func TestOpenOfEachBatch(t *testing.T) {
	c := of(val(3), val(4), 0)
	for _, batch := range []int{1, 2, 3, 127, 128, 1 << 32, top - 1, top} {
		opened := marked(batch, 9, 2, 5, 9)
		for _, key := range []uint64{2, 5, 9, 4, 6, 500} {
			for _, below := range []int{0, 1, batch / 2, batch - 1} {
				c.Batch = min(below, batch-1)
				wantOnEach(t, 1, opened, at(key, c), true)
			}
			c.Batch = batch
			wantOnEach(t, 1, opened, at(key, c), slices.Contains(opened.Keys, key))
			for _, above := range []int{batch + 1, batch + 2, 2 * batch, top} {
				if c.Batch = above; above > batch && above <= top {
					wantOnEach(t, 1, opened, at(key, c), false)
				}
			}
		}
		c.Batch = batch
		wantOnEach(t, 1, marked(batch, 9), at(5, c), false)
	}
}

// TestOpenOfCellsBesideTheFirstMark: nobody can have put them there.
func TestOpenOfCellsBesideTheFirstMark(t *testing.T) {
	for _, batch := range []int{0, 1, 2, top} {
		wantNoStore(t, 1, storeOf(api.Mark{}, []api.Cell{at(5, of(val(1), val(1), batch))}), api.ErrStore)
	}
}

func TestOpenOfAKeyInTwoPages(t *testing.T) {
	opened := marked(3, 300, 5)
	for first := 1; first <= 6; first++ {
		for other := first + 1; other <= 6; other++ {
			for _, key := range []uint64{0, 5, lastKey} {
				lists := make([][]api.Cell, 6)
				for i := range lists {
					lists[i] = []api.Cell{at(uint64(100+i), of(nothing, val(1), 1))}
				}
				lists[first-1] = []api.Cell{at(key, of(nothing, val(1), 1))}
				lists[other-1] = []api.Cell{at(key, of(nothing, val(1), 1))}
				wantNoStore(t, 1, storeOf(opened, lists...), api.ErrStore)
				lists[other-1][0].Batch = 2
				lists[other-1][0].Cur = val(9)
				wantNoStore(t, 1, storeOf(opened, lists...), api.ErrStore)
			}
		}
	}
}

// TestOpenOfAFullStore: 96 cells whose keys go from page to page and back.
func TestOpenOfAFullStore(t *testing.T) {
	lists, all := make([][]api.Cell, 6), []api.Cell{}
	for i, key := range rows(7, whole, 3) {
		c := at(key, of(val(key), val(key+1), 1+i%3))
		lists[i%6] = append(lists[i%6], c)
		all = append(all, c)
	}
	opened := marked(3, 1)
	for _, c := range all {
		if c.Batch == 3 {
			opened.Keys = append(opened.Keys, c.Key)
		}
	}
	wantStore(t, 1, storeOf(opened, lists...), opened, all...)
	s, _ := Open(loaded(t, storeOf(opened, lists...)), 1)
	if n := s.Used(); n != 7 {
		t.Errorf("Used() is %d", n)
	}
}

// TestOpenOfBlocksWithoutBytes: pages that have a block, but no bytes in it.
func TestOpenOfBlocksWithoutBytes(t *testing.T) {
	image := append([]string{rootText(1, 2, 3, 0, 0, 0, 0, 4), "", "\x00\x00\x00"}, make([]string, 13)...)
	wantStore(t, 1, image, api.Mark{})
	s, _ := Open(loaded(t, image), 1)
	if n := s.Used(); n != 3 {
		t.Errorf("Used() is %d", n)
	}
	image[2] = ""
	wantNoStore(t, 1, image, api.ErrStore)
}

// TestOpenOfTheRootThatHolds: the older root's pages play no part, whatever they are.
func TestOpenOfTheRootThatHolds(t *testing.T) {
	opened := marked(1, 4, 2)
	for home := range 2 {
		image := append([]string{"", "", "no mark", markText(opened), "no cells", cellsText(at(2, of(nothing, val(3), 1)))}, make([]string, 12)...)
		image[home], image[1-home] = rootText(9, 3, 0, 5, 0, 0, 0, 0), rootText(8, 2, 4, 0, 0, 0, 0, 0)
		wantStore(t, 1, image, opened, at(2, of(nothing, val(3), 1)))
		image[home], image[1-home] = image[1-home], rootText(7, 3, 0, 5, 0, 0, 0, 0)
		wantNoStore(t, 1, image, api.ErrStore)
	}
}

// TestOpenOfADisksOwn: two stores on two disks have nothing in common.
func TestOpenOfADisksOwn(t *testing.T) {
	p := newPairing(t, 16, 1)
	p.fill(t, 1, []uint64{2, 9}, 3)
	q := p.twin(t)
	q.fill(t, 2, []uint64{2, 50}, 4)
	q.hold(t)
	p.hold(t)
	p.begin(t, api.OK, 1, 2, 9)
	p.hold(t)
	q.hold(t)
}

// The nil store, and one whose power is gone.

func TestNilStore(t *testing.T) {
	var none *Store
	wantRefused(t, none, api.ErrNil)
	wantEnded(t, none, false)
	if n := none.Used(); n != 0 {
		t.Errorf("Used() is %d", n)
	}
}

// small is a store with two keys touched, of which one has a cell.
func small(t *testing.T) *pairing {
	t.Helper()
	p := newPairing(t, 16, 1)
	p.begin(t, api.OK, 1, 1, 2, 9)
	p.apply(t, api.OK, 1, 1, pairs(2, 3)...)
	return p
}

func TestEachCallWhileTheDiskIsDown(t *testing.T) {
	for name, call := range firsts() {
		p := small(t)
		p.turn(false)
		// The store is ended by the call, not by the power.
		wantEnded(t, p.Store, false)
		if e := call(p.Store); e != api.ErrDown {
			t.Errorf("%s of a store on a disk that is down is %d", name, e)
		}
		wantEnded(t, p.Store, true)
		p.model.ended = true
		p.look(t)
		wantRefused(t, p.Store, api.ErrDown)
		p.turn(true)
		wantRefused(t, p.Store, api.ErrDown)
		wantEnded(t, p.Store, true)
		p.look(t)
		if p.Used() != 2 {
			t.Errorf("Used() of an ended store is %d", p.Used())
		}
		p.openAnew(t)
		p.apply(t, api.OK, 1, 1, pairs(9, 1)...)
		p.hold(t)
	}
}

func TestEachCallOfAStoreThatAWriteHasEnded(t *testing.T) {
	for name, call := range firsts() {
		for n := range 2 {
			p := small(t)
			p.arm(n)
			p.apply(t, api.ErrDown, 1, 1, pairs(9, 1)...)
			wantEnded(t, p.Store, true)
			p.turn(true)
			if e := call(p.Store); e != api.ErrDown {
				t.Errorf("%s of an ended store is %d", name, e)
			}
			wantRefused(t, p.Store, api.ErrDown)
			p.look(t)
			p.openAnew(t)
		}
	}
}

// TestAPowerThatGoesBetweenCalls: a store that is told nothing of it goes on.
func TestAPowerThatGoesBetweenCalls(t *testing.T) {
	p := small(t)
	for i := range 3 {
		p.turn(false)
		p.look(t)
		p.turn(true)
		p.hold(t)
		p.apply(t, api.OK, 1, 1, pairs(9, uint64(i+5))...)
		p.hold(t)
	}
}
