package store

import (
	"math"
	"slices"
	"testing"

	"reprise/api"
	"reprise/disk"
)

// The two examples.

func exampleStore(t *testing.T) *Store {
	t.Helper()
	d, _ := disk.New(16)
	s, e := Format(d, 1)
	if s == nil || e != api.OK {
		t.Fatalf("Format is %v, %d", s, e)
	}
	wantBegin(t, s, 1, 4, []uint64{2, 9}, api.OK)
	wantApply(t, s, 1, 4, pairs(2, 3), api.OK)
	return s
}

func TestExampleOne(t *testing.T) {
	s := exampleStore(t)
	wantQuery(t, s, 2, 0, nothing, api.OK)
	wantQuery(t, s, 2, 1, val(3), api.OK)
	wantQuery(t, s, 9, 1, nothing, api.OK)
	wantApply(t, s, 1, 4, pairs(7, 1), api.ErrKey)
	for _, table := range [][]api.Pair{nil, pairs(2, 3), pairs(7, 1)} {
		wantApply(t, s, 1, 3, table, api.ErrFenced)
		wantApply(t, s, 1, 5, table, api.ErrAhead)
		wantApply(t, s, 2, 1, table, api.ErrAhead)
	}
	wantBegin(t, s, 1, 4, []uint64{2}, api.ErrTwice)
	wantBegin(t, s, 3, 1, nil, api.ErrAhead)
}

func TestExampleTwo(t *testing.T) {
	s := exampleStore(t)
	wantBegin(t, s, 1, 6, []uint64{9}, api.OK)
	wantCells(t, s, api.OK)
	wantQuery(t, s, 2, 1, nothing, api.OK)
	wantApply(t, s, 1, 6, pairs(9, 5), api.OK)
	wantBegin(t, s, 2, 5, []uint64{9}, api.OK)
	wantApply(t, s, 2, 5, pairs(9, 1), api.OK)
	wantQuery(t, s, 9, 1, val(5), api.OK)
	wantQuery(t, s, 9, 2, val(6), api.OK)
	for _, table := range [][]api.Pair{nil, pairs(9, 5), pairs(7, 1)} {
		wantApply(t, s, 1, 6, table, api.ErrFenced)
	}
	wantMark(t, s, marked(2, 5, 9), api.OK)
	wantCells(t, s, api.OK, at(9, of(val(5), val(6), 2)))
}

// P13.3: what Begin refuses.

func TestBeginOfNoAttempt(t *testing.T) {
	for _, p := range []*pairing{newPairing(t, 16, 1), openPairing(t, 1, 7, marked(3, 7, 2, 9)), openPairing(t, 1, 7, marked(top, top, 2))} {
		for _, wrong := range noCounts() {
			// Ahead of what Judge says, and of all else.
			for _, other := range []int{math.MinInt, 0, 1, 3, 4, 7, top, top + 1, math.MaxInt} {
				for _, keys := range [][]uint64{nil, {2}, {2, 9}, {9, 2}} {
					p.refused(t, func() {
						p.begin(t, api.ErrArg, wrong, other, keys...)
						p.begin(t, api.ErrArg, other, wrong, keys...)
					})
				}
			}
		}
		p.hold(t)
	}
}

func TestBeginAtTheEnds(t *testing.T) {
	for _, attempt := range []int{1, 2, 127, 128, top - 1, top} {
		p := newPairing(t, 16, 1)
		p.begin(t, api.OK, 1, attempt, 2)
		p.hold(t)
		p.begin(t, api.ErrArg, 1, top+1, 2)
		p.begin(t, api.OK, 2, 1, 2)
		p.hold(t)
	}
	p := openPairing(t, 1, 7, marked(top-1, top, 2), []api.Cell{at(2, of(nothing, val(3), top-1))})
	p.begin(t, api.ErrArg, top+1, 1, 2)
	p.begin(t, api.OK, top, 1, 2, lastKey)
	p.apply(t, api.OK, top, 1, pairs(2, 5, lastKey, 1)...)
	p.hold(t)
	p.begin(t, api.OK, top, top, 0, 2)
	p.hold(t)
	wantCells(t, p.Store, api.OK, at(2, of(val(3), val(3), top-1)))
	p.apply(t, api.OK, top, top, pairs(0, 1, 2, 5)...)
	p.begin(t, api.ErrArg, top+1, 1, 2)
	p.begin(t, api.ErrArg, top, top+1, 2)
	p.begin(t, api.ErrTwice, top, top, 2)
	p.begin(t, api.ErrFenced, top, top-1, 2)
	p.hold(t)
}

func TestBeginOfKeysThatAreNone(t *testing.T) {
	for _, p := range []*pairing{newPairing(t, 16, 1), openPairing(t, 1, 7, marked(3, 7, 2, 9))} {
		long := rows(0, most+1, 1)
		for _, keys := range append(notRising(), long, rows(5, 1000, 7), slices.Repeat([]uint64{4}, 200)) {
			// Ahead of ErrFenced, ErrTwice and ErrAhead, and of an attempt that could be opened.
			for _, attempt := range [][2]int{{1, 1}, {3, 6}, {3, 7}, {3, 8}, {4, 1}, {9, 9}} {
				p.refused(t, func() { p.begin(t, api.ErrArg, attempt[0], attempt[1], keys...) })
			}
		}
		p.hold(t)
	}
}

func TestBeginOfSoManyKeys(t *testing.T) {
	p := newPairing(t, 16, 1)
	for count := range most + 1 {
		p.begin(t, api.OK, 1, 2*count+1, rows(0, count, 3)...)
		p.hold(t)
		p.begin(t, api.OK, 1, 2*count+2, rows(lastKey-uint64(max(count, 1))+1, count, 1)...)
		p.hold(t)
	}
}

func TestBeginOfAttemptsInTheirOrder(t *testing.T) {
	fenced, twice, ahead := api.ErrFenced, api.ErrTwice, api.ErrAhead
	same, other := []uint64{2, 9}, []uint64{2, 7}
	for _, c := range []struct {
		batch, attempt int
		keys           []uint64
		want           api.Errno
	}{
		{3, 6, same, fenced}, {3, 6, other, fenced}, {3, 1, same, fenced}, {2, 99, same, fenced}, {2, 7, same, fenced}, {1, top, other, fenced}, {1, 1, nil, fenced},
		{3, 7, same, api.OK}, {3, 7, other, twice}, {3, 7, nil, twice}, {3, 7, []uint64{2}, twice}, {3, 7, []uint64{9}, twice}, {3, 7, []uint64{2, 9, 10}, twice}, {3, 7, []uint64{1, 2, 9}, twice},
		{5, 1, same, ahead}, {5, 7, same, ahead}, {5, 8, other, ahead}, {6, 9, nil, ahead}, {top, top, same, ahead}, {1<<32 + 3, 8, same, ahead}, {1<<32 + 4, 8, same, ahead},
	} {
		p := openPairing(t, 1, 7, marked(3, 7, same...), []api.Cell{at(2, of(val(1), val(4), 3)), at(9, of(nothing, val(4), 3)), at(20, of(val(2), val(5), 2))})
		p.refused(t, func() { p.begin(t, c.want, c.batch, c.attempt, c.keys...) })
		p.hold(t)
	}
	for _, attempt := range [][2]int{{3, 8}, {3, top}, {4, 1}, {4, 6}, {4, 7}, {4, 8}, {4, top}} {
		for _, keys := range [][]uint64{same, other, nil, {20}} {
			p := openPairing(t, 1, 7, marked(3, 7, same...), []api.Cell{at(2, of(val(1), val(4), 3)), at(20, of(val(2), val(5), 2))})
			p.begin(t, api.OK, attempt[0], attempt[1], keys...)
			p.hold(t)
			wantMark(t, p.Store, marked(attempt[0], attempt[1], keys...), api.OK)
		}
	}
}

func TestBeginOfTheFirstMark(t *testing.T) {
	for _, attempt := range []int{1, 5, top} {
		p := newPairing(t, 16, 1)
		p.refused(t, func() {
			p.begin(t, api.ErrAhead, 2, attempt)
			p.begin(t, api.ErrAhead, top, attempt, 5)
		})
		p.begin(t, api.OK, 1, attempt, 5)
		p.hold(t)
	}
}

// P13.3: what Begin does.

// TestBeginOfTheSameOnceMore: nothing is written, and what was applied stays.
func TestBeginOfTheSameOnceMore(t *testing.T) {
	p := newPairing(t, 16, 1)
	for _, keys := range [][]uint64{nil, {2}, {2, 9, 40}} {
		batch := p.mark.Batch + 1
		p.begin(t, api.OK, batch, 3, keys...)
		for range 2 {
			p.refused(t, func() {
				p.begin(t, api.OK, batch, 3, keys...)
				p.begin(t, api.OK, batch, 3, append([]uint64{}, keys...)...)
			})
			p.hold(t)
			p.apply(t, api.OK, batch, 3, each(keys, 5)...)
		}
	}
	// Keys that are nothing are the same, nil or empty.
	if p = newPairing(t, 16, 1); p.Begin(1, 1, nil) != api.OK || p.Begin(1, 1, []uint64{}) != api.OK || p.on.Writes() != 6 {
		t.Error("Begin of no keys once more")
	}
}

// shelves is a store with mark {4, 7, [1 2 3 10 30 50]} and cells of all kinds in four pages.
func shelves(t *testing.T) *pairing {
	t.Helper()
	return openPairing(t, 1, 7, marked(4, 7, 1, 2, 3, 10, 30, 50),
		[]api.Cell{at(1, of(val(5), val(7), 4)), at(2, of(nothing, val(7), 4)), at(3, of(val(5), val(7), 2)), at(4, of(nothing, val(7), 3))},
		[]api.Cell{at(10, of(nothing, val(1), 4))},
		[]api.Cell{at(20, of(val(1), val(2), 3)), at(21, of(val(8), val(8), 0))},
		nil,
		[]api.Cell{at(30, of(nothing, val(9), 3))},
		[]api.Cell{at(50, of(val(6), val(9), 4)), at(51, of(val(6), nothing, 1))})
}

func TestBeginOfAFurtherAttempt(t *testing.T) {
	for _, keys := range [][]uint64{nil, {50}, {4, 20, 21}, {1, 2, 3, 10, 30, 50}} {
		p := shelves(t)
		p.begin(t, api.OK, 4, 8, keys...)
		// The mark's keys, not the new ones, say what is taken back; page 2 has no cells then, page 3 and 5 are as they were.
		wantCells(t, p.Store, api.OK,
			at(1, of(val(5), val(5), 3)), at(3, of(val(5), val(7), 2)), at(4, of(nothing, val(7), 3)), at(20, of(val(1), val(2), 3)), at(21, of(val(8), val(8), 0)),
			at(30, of(nothing, val(9), 3)), at(50, of(val(6), val(6), 3)), at(51, of(val(6), nothing, 1)))
		wantMark(t, p.Store, marked(4, 8, keys...), api.OK)
		if n := p.on.Writes(); n != 4 || p.Used() != 5 {
			t.Errorf("Begin writes %d blocks; %d are used", n, p.Used())
		}
		p.hold(t)
		p.openAnew(t)
	}
}

// TestBeginWritesPagesInTheirOrder: the changed ones by their numbers, each to the lowest free block, then the mark's, then the root.
func TestBeginWritesPagesInTheirOrder(t *testing.T) {
	p := shelves(t)
	was := imageOf(p.on)
	p.begin(t, api.OK, 4, 8, 50)
	want := slices.Clone(was)
	want[1] = rootText(8, 10, 8, 0, 5, 0, 6, 9)
	want[8] = cellsText(at(1, of(val(5), val(5), 3)), at(3, of(val(5), val(7), 2)), at(4, of(nothing, val(7), 3)))
	want[9] = cellsText(at(50, of(val(6), val(6), 3)), at(51, of(val(6), nothing, 1)))
	want[10] = "\x04\x08\x01\x32"
	wantImage(t, p.on, want)
}

func TestBeginOfTheNextBatch(t *testing.T) {
	for _, keys := range [][]uint64{nil, {50}, {4, 20, 21}, {1, 2, 3, 10, 30, 50}} {
		for _, attempt := range []int{1, 7, 8} {
			p := shelves(t)
			was, _ := p.Cells()
			p.begin(t, api.OK, 5, attempt, keys...)
			wantCells(t, p.Store, api.OK, was...)
			wantMark(t, p.Store, marked(5, attempt, keys...), api.OK)
			if n := p.on.Writes(); n != 2 || p.Used() != 6 {
				t.Errorf("Begin writes %d blocks; %d are used", n, p.Used())
			}
			p.hold(t)
			p.openAnew(t)
		}
	}
}

// TestBeginOfAFurtherAttemptThatHasNothingToTakeBack: the mark's page alone is put.
func TestBeginOfAFurtherAttemptThatHasNothingToTakeBack(t *testing.T) {
	p := newPairing(t, 16, 1)
	p.fill(t, 1, []uint64{2, 9}, 3)
	p.begin(t, api.OK, 2, 1, 2, 9)
	for attempt := 2; attempt < 6; attempt++ {
		writes := p.on.Writes()
		p.begin(t, api.OK, 2, attempt, 2, 9)
		if n := p.on.Writes() - writes; n != 2 {
			t.Errorf("Begin writes %d blocks", n)
		}
		p.hold(t)
	}
	wantQuery(t, p.Store, 2, 1, val(3), api.OK)
	wantQuery(t, p.Store, 2, 2, val(3), api.OK)
}

// TestBeginOfTheFirstBatchAgain: cells whose batch is 0 then.
func TestBeginOfTheFirstBatchAgain(t *testing.T) {
	p := openPairing(t, 1, 7, marked(1, 1, 2, 9), []api.Cell{at(2, of(val(4), val(7), 1)), at(9, of(nothing, val(7), 1)), at(11, of(val(3), val(3), 0))})
	p.begin(t, api.OK, 1, 2, 2)
	wantCells(t, p.Store, api.OK, at(2, of(val(4), val(4), 0)), at(11, of(val(3), val(3), 0)))
	p.hold(t)
	p.begin(t, api.OK, 1, 3, 2)
	wantCells(t, p.Store, api.OK, at(2, of(val(4), val(4), 0)), at(11, of(val(3), val(3), 0)))
	p.openAnew(t)
}

// P13.4: what Apply refuses.

func TestApplyOfNoAttempt(t *testing.T) {
	for _, p := range []*pairing{newPairing(t, 16, 1), openPairing(t, 1, 7, marked(3, 7, 2, 9)), openPairing(t, 1, 7, marked(top, top, 2))} {
		for _, wrong := range noCounts() {
			for _, other := range []int{math.MinInt, 0, 1, 3, 4, 7, top, top + 1, math.MaxInt} {
				for _, table := range [][]api.Pair{nil, pairs(2, 1), pairs(7, 1), pairs(2, 1, 2, 1)} {
					p.refused(t, func() {
						p.apply(t, api.ErrArg, wrong, other, table...)
						p.apply(t, api.ErrArg, other, wrong, table...)
					})
				}
			}
		}
		p.hold(t)
	}
}

func TestApplyOfNoTable(t *testing.T) {
	for _, kind := range kinds() {
		for _, p := range []*pairing{newPairing(t, 16, kind), openPairing(t, kind, 7, marked(3, 7, 2, 9))} {
			for _, table := range noTables() {
				// Ahead of what Judge says, of ErrKey and of a table that would be taken.
				for _, attempt := range [][2]int{{1, 1}, {3, 6}, {3, 7}, {3, 8}, {4, 1}, {9, 9}} {
					p.refused(t, func() { p.apply(t, api.ErrArg, attempt[0], attempt[1], table...) })
				}
			}
			p.hold(t)
		}
	}
}

func TestApplyOfValuesThatAreNotFit(t *testing.T) {
	for _, kind := range kinds() {
		for _, bits := range []uint64{oddNaN, lastKey, 2047<<52 | 1, api.QuietNaN + 1, api.QuietNaN | 1<<63} {
			for _, table := range [][]api.Pair{pairs(2, bits), pairs(2, bits, 9, 1), pairs(2, 1, 9, bits), pairs(2, 1, 9, 1, 11, bits)} {
				p := openPairing(t, kind, 7, marked(3, 7, 2, 9, 11))
				if kind <= 2 {
					p.apply(t, api.OK, 3, 7, table...)
					p.hold(t)
					continue
				}
				for _, attempt := range [][2]int{{3, 6}, {3, 7}, {3, 8}, {4, 1}} {
					p.refused(t, func() { p.apply(t, api.ErrArg, attempt[0], attempt[1], table...) })
				}
				p.refused(t, func() { p.apply(t, api.ErrArg, 3, 7, append(pairs(1, 1), table...)...) })
				p.hold(t)
			}
		}
		for _, bits := range []uint64{0, 1, 1 << 63, 2047 << 52, 4095 << 52, api.QuietNaN} {
			p := openPairing(t, kind, 7, marked(3, 7, 2, 9, 11))
			p.apply(t, api.OK, 3, 7, pairs(2, bits, 11, bits)...)
			p.hold(t)
		}
	}
}

func TestApplyOfOtherAttempts(t *testing.T) {
	p := openPairing(t, 1, 7, marked(3, 7, 2, 9), []api.Cell{at(2, of(val(1), val(4), 3))})
	for _, table := range [][]api.Pair{nil, pairs(2, 5), pairs(2, 5, 9, 1), pairs(7, 1)} {
		for _, attempt := range [][2]int{{3, 6}, {3, 1}, {2, 7}, {2, 8}, {2, top}, {1, 1}} {
			p.refused(t, func() { p.apply(t, api.ErrFenced, attempt[0], attempt[1], table...) })
		}
		for _, attempt := range [][2]int{{3, 8}, {3, top}, {4, 1}, {4, 7}, {4, 8}, {5, 7}, {top, top}, {3, 1<<32 + 7}, {1<<32 + 3, 7}} {
			p.refused(t, func() { p.apply(t, api.ErrAhead, attempt[0], attempt[1], table...) })
		}
	}
	p.hold(t)
	p = newPairing(t, 16, 1)
	p.refused(t, func() {
		p.apply(t, api.ErrAhead, 1, 1)
		p.apply(t, api.ErrAhead, 1, 1, pairs(2, 5)...)
	})
	p.hold(t)
}

func TestApplyOfKeysThatAreNotTouched(t *testing.T) {
	// Key 20 has a cell, but isn't touched.
	p := openPairing(t, 1, 7, marked(3, 7, 2, 9), []api.Cell{at(2, of(val(1), val(4), 2)), at(20, of(val(1), val(4), 2))})
	for _, table := range [][]api.Pair{pairs(7, 1), pairs(0, 1), pairs(20, 1), pairs(2, 1, 3, 1), pairs(1, 1, 2, 1), pairs(2, 1, 5, 1, 9, 1), pairs(2, 1, 9, 1, lastKey, 1), pairs(1<<32+2, 1)} {
		p.refused(t, func() { p.apply(t, api.ErrKey, 3, 7, table...) })
	}
	p.hold(t)
	p = openPairing(t, 1, 7, marked(3, 7))
	p.refused(t, func() { p.apply(t, api.ErrKey, 3, 7, pairs(0, 1)...) })
	p.apply(t, api.OK, 3, 7)
	p.hold(t)
}

// crowded is a store with so many cells, put in by turns of at most 64 keys, from key 1000 on.
func crowded(t *testing.T, count int) *pairing {
	t.Helper()
	p := newPairing(t, 16, 1)
	for from := 0; from < count; from += most {
		p.fill(t, p.mark.Batch+1, rows(1000+uint64(from), min(most, count-from), 1), 1)
	}
	return p
}

func TestApplyWithoutRoom(t *testing.T) {
	for count := whole - 3; count <= whole; count++ {
		for more := range 6 {
			p := crowded(t, count)
			batch := p.mark.Batch + 1
			keys := append(rows(1, more, 1), 1000)
			p.begin(t, api.OK, batch, 1, append(rows(0, 20, 1), 1000)...)
			if count+more > whole {
				// Also behind keys that have a cell or would find a place, and behind ErrKey.
				p.refused(t, func() {
					p.apply(t, api.ErrRoom, batch, 1, each(keys, 5)...)
					p.apply(t, api.ErrKey, batch, 1, each(append(keys, 5000), 5)...)
				})
				p.hold(t)
				keys = []uint64{1000}
			}
			p.apply(t, api.OK, batch, 1, each(keys, 5)...)
			p.hold(t)
			wantQuery(t, p.Store, 1000, batch, val(6), api.OK)
		}
	}
}

// TestRoomOfWhatIsTakenBack: a full store has room again for keys whose cells a Begin took away.
func TestRoomOfWhatIsTakenBack(t *testing.T) {
	p := crowded(t, whole-20)
	p.begin(t, api.OK, 3, 1, rows(0, 21, 1)...)
	p.apply(t, api.OK, 3, 1, each(rows(0, 20, 1), 5)...)
	p.refused(t, func() { p.apply(t, api.ErrRoom, 3, 1, pairs(20, 1)...) })
	p.begin(t, api.OK, 3, 2, rows(20, 21, 1)...)
	p.apply(t, api.OK, 3, 2, each(rows(20, 20, 1), 5)...)
	p.refused(t, func() { p.apply(t, api.ErrRoom, 3, 2, pairs(40, 1)...) })
	p.hold(t)
	p.openAnew(t)
}

// P13.4: what Apply does.

func TestApplyOfKeysWithACellAndWithout(t *testing.T) {
	p := shelves(t)
	p.begin(t, api.OK, 5, 1, 1, 3, 4, 20, 40, 50, 51, 60)
	writes := p.on.Writes()
	p.apply(t, api.OK, 5, 1, pairs(1, 1, 3, 2, 20, 3, 40, 4, 51, 5)...)
	wantCells(t, p.Store, api.OK,
		at(1, of(val(7), val(8), 5)), at(2, of(nothing, val(7), 4)), at(3, of(val(7), val(9), 5)), at(4, of(nothing, val(7), 3)), at(10, of(nothing, val(1), 4)),
		at(20, of(val(2), val(5), 5)), at(21, of(val(8), val(8), 0)), at(30, of(nothing, val(9), 3)), at(40, of(nothing, val(4), 5)),
		at(50, of(val(6), val(9), 4)), at(51, of(nothing, val(5), 5)))
	// The pages 1, 3 and 6, and the root.
	if n := p.on.Writes() - writes; n != 4 {
		t.Errorf("Apply writes %d blocks", n)
	}
	p.hold(t)
	p.openAnew(t)
}

// TestApplyWritesPagesInTheirOrder: whichever key's page comes first, the pages are written by their numbers.
func TestApplyWritesPagesInTheirOrder(t *testing.T) {
	p := openPairing(t, 1, 7, marked(3, 7, 1, 2, 3),
		[]api.Cell{at(3, of(nothing, val(4), 2))}, nil, []api.Cell{at(2, of(nothing, val(5), 2))}, nil, nil, []api.Cell{at(1, of(nothing, val(6), 2))})
	want := slices.Clone(p.image)
	p.apply(t, api.OK, 3, 7, pairs(1, 1, 2, 1, 3, 1)...)
	want[1] = rootText(8, 2, 6, 0, 7, 0, 0, 8)
	want[6] = cellsText(at(3, of(val(4), val(5), 3)))
	want[7] = cellsText(at(2, of(val(5), val(6), 3)))
	want[8] = cellsText(at(1, of(val(6), val(7), 3)))
	wantImage(t, p.on, want)
	p.hold(t)
}

// TestApplyTwice: what is applied once more takes the place of what was, key by key.
func TestApplyTwice(t *testing.T) {
	for _, kind := range kinds() {
		p := newPairing(t, 16, kind)
		p.fill(t, 1, []uint64{2, 9}, 3)
		p.begin(t, api.OK, 2, 4, 2, 5, 9)
		p.apply(t, api.OK, 2, 4, pairs(2, 7)...)
		p.hold(t)
		p.apply(t, api.OK, 2, 4, pairs(2, 1, 5, 1)...)
		p.hold(t)
		p.apply(t, api.OK, 2, 4, pairs(9, 4)...)
		p.hold(t)
		for _, table := range [][]api.Pair{nil, pairs(2, 1, 5, 1), pairs(2, 1), pairs(5, 1), pairs(9, 4), pairs(2, 1, 5, 1, 9, 4)} {
			// The power, which would go at a write, stays.
			p.refused(t, func() { p.apply(t, api.OK, 2, 4, table...) })
		}
		p.hold(t)
	}
	p := newPairing(t, 16, 1)
	p.fill(t, 1, []uint64{2, 9}, 3)
	p.begin(t, api.OK, 2, 4, 2)
	for range 3 {
		p.apply(t, api.OK, 2, 4, pairs(2, 7)...)
		wantQuery(t, p.Store, 2, 2, val(10), api.OK)
		wantQuery(t, p.Store, 2, 1, val(3), api.OK)
	}
}

// TestApplyWritesChangedPagesAlone: of a table whose keys stand in all pages just those whose cells become others are written.
func TestApplyWritesChangedPagesAlone(t *testing.T) {
	for changed := range 1 << 6 {
		p := crowded(t, whole)
		// The first cell of each page.
		keys := rows(1000, 6, full)
		p.fill(t, 3, keys, 5)
		table, count := each(keys, 5), 0
		for i := range table {
			if changed>>i%2 == 1 {
				table[i].Val = val(6)
				count++
			}
		}
		writes := p.on.Writes()
		p.apply(t, api.OK, 3, 1, table...)
		if n := p.on.Writes() - writes; n != count+min(count, 1) {
			t.Errorf("Apply of %d pages writes %d blocks", count, n)
		}
		p.look(t)
	}
}

// TestNewCellsGoToTheFirstPageWithPlace: pages with 15 cells and 16, and with fewer.
func TestNewCellsGoToTheFirstPageWithPlace(t *testing.T) {
	for _, c := range []struct{ sizes, want []int }{
		{[]int{0, 0, 0, 0, 0, 0}, []int{1, 1, 1}},
		{[]int{14, 0, 0, 0, 0, 0}, []int{1, 1, 2}},
		{[]int{15, 0, 0, 0, 0, 0}, []int{1, 2, 2}},
		{[]int{16, 0, 0, 0, 0, 0}, []int{2, 2, 2}},
		{[]int{16, 15, 16, 14, 0, 0}, []int{2, 4, 4}},
		{[]int{15, 15, 15, 0, 0, 0}, []int{1, 2, 3}},
		{[]int{16, 15, 15, 15, 16, 16}, []int{2, 3, 4}},
		{[]int{0, 16, 3, 15, 1, 0}, []int{1, 1, 1}},
		{[]int{16, 16, 16, 16, 15, 14}, []int{5, 6, 6}},
		{[]int{16, 16, 16, 16, 16, 13}, []int{6, 6, 6}},
		{[]int{15, 16, 16, 16, 16, 14}, []int{1, 6, 6}},
	} {
		// New keys ahead of all that are there, among them and behind them.
		for _, keys := range [][]uint64{{0, 1, 2}, {1005, 3005, 6005}, {lastKey - 2, lastKey - 1, lastKey}} {
			lists := make([][]api.Cell, 6)
			for i, size := range c.sizes {
				for _, key := range rows(uint64(1000*(i+1)), size, 10) {
					lists[i] = append(lists[i], at(key, of(nothing, val(1), 2)))
				}
			}
			p := openPairing(t, 1, 7, marked(3, 7, keys...), lists...)
			p.apply(t, api.OK, 3, 7, each(keys, 5)...)
			p.hold(t)
			for i, key := range keys {
				n := slices.IndexFunc(p.model.cells, func(s stand) bool { return s.Key == key })
				if got := p.model.cells[n].page; got != c.want[i] {
					t.Errorf("with %d cells key %d is in page %d of the model", c.sizes, i, got)
				}
			}
			p.openAnew(t)
		}
	}
}

// TestNewCellsTakeThePlaceOfThoseTakenBack: the first page with place may be one that was full.
func TestNewCellsTakeThePlaceOfThoseTakenBack(t *testing.T) {
	p := crowded(t, 14)
	p.begin(t, api.OK, 2, 1, rows(0, 9, 1)...)
	p.apply(t, api.OK, 2, 1, each(rows(0, 9, 1), 5)...)
	if n := len(p.in(1)); n != full || len(p.in(2)) != 7 {
		t.Fatalf("page 1 has %d cells", n)
	}
	p.hold(t)
	p.begin(t, api.OK, 2, 2, 50, 51, 52)
	p.apply(t, api.OK, 2, 2, pairs(50, 1, 51, 1, 52, 1)...)
	if len(p.in(1)) != full || len(p.in(2)) != 1 || p.Used() != 3 {
		t.Errorf("the pages have %d and %d cells", len(p.in(1)), len(p.in(2)))
	}
	p.hold(t)
}

// TestApplyOfNothing: an attempt that touches keys and has no pairs writes nothing.
func TestApplyOfNothing(t *testing.T) {
	p := small(t)
	p.refused(t, func() {
		p.apply(t, api.OK, 1, 1)
		if p.Apply(1, 1, nil) != api.OK || p.Apply(1, 1, []api.Pair{}) != api.OK {
			t.Error("Apply of no pairs is refused")
		}
	})
	p.hold(t)
}

func TestApplyOfEachKind(t *testing.T) {
	for _, c := range []struct {
		kind            int
		first, part, to uint64
	}{
		{1, 3, 4, 7}, {1, lastKey, 2, 1}, {2, 1<<63 - 1, 1, 1 << 63}, {2, 5, lastKey - 6, lastKey - 1},
		{3, math.Float64bits(1), math.Float64bits(2), math.Float64bits(1)}, {3, 0, 1 << 63, 1 << 63}, {3, 1 << 63, 0, 1 << 63}, {3, api.QuietNaN, 2047 << 52, 2047 << 52},
		{4, math.Float64bits(1), math.Float64bits(2), math.Float64bits(2)}, {4, 0, 1 << 63, 0}, {4, 1 << 63, 0, 0}, {4, 2047 << 52, api.QuietNaN, api.QuietNaN},
	} {
		p := newPairing(t, 16, c.kind)
		p.fill(t, 1, []uint64{2}, c.first)
		p.begin(t, api.OK, 2, 1, 2)
		p.apply(t, api.OK, 2, 1, pairs(2, c.part)...)
		wantCells(t, p.Store, api.OK, at(2, of(val(c.first), val(c.to), 2)))
		p.hold(t)
	}
}

// P13.3, P13.4: no more generations.

func TestBeginAndApplyAtTheGreatestGeneration(t *testing.T) {
	for _, gen := range []uint64{top - 2, top - 1, top} {
		p := openPairing(t, 1, gen, marked(3, 7, 2, 9), []api.Cell{at(2, of(val(1), val(4), 3))})
		if gen == top-2 {
			p.apply(t, api.OK, 3, 7, pairs(9, 1)...)
		}
		if gen < top {
			p.begin(t, api.OK, 3, 8, 2, 9)
			p.hold(t)
		}
		attempt := p.mark.Attempt
		p.refused(t, func() {
			p.begin(t, api.ErrRoom, 3, 9, 2)
			p.begin(t, api.ErrRoom, 4, 1)
			p.apply(t, api.ErrRoom, 3, attempt, pairs(2, 9)...)
			p.apply(t, api.ErrRoom, 3, attempt, pairs(9, 1)...)
			// What writes nothing needs no room.
			p.begin(t, api.OK, 3, attempt, 2, 9)
			p.apply(t, api.OK, 3, attempt)
			p.begin(t, api.ErrAhead, 5, 1)
			p.begin(t, api.ErrTwice, 3, attempt)
			p.apply(t, api.ErrKey, 3, attempt, pairs(3, 1)...)
		})
		wantEnded(t, p.Store, false)
		p.hold(t)
		p.openAnew(t)
	}
}

// P13.5

func TestQueryAtEachBatch(t *testing.T) {
	p := openPairing(t, 1, 7, marked(9, 1),
		[]api.Cell{at(1, of(val(5), val(7), 4)), at(2, of(nothing, val(3), 1))}, nil, []api.Cell{at(0, of(val(6), val(6), 0))}, nil, nil, []api.Cell{at(lastKey, of(val(8), nothing, 8))})
	for _, c := range []struct {
		key        uint64
		batch      int
		prev, then api.Value
	}{{1, 4, val(5), val(7)}, {2, 1, nothing, val(3)}, {0, 0, val(6), val(6)}, {lastKey, 8, val(8), nothing}} {
		for _, committed := range []int{math.MinInt, math.MinInt + 1, -top, -1, 0, 1, 2, 3, 4, 5, 6, 7, 8, 9, 10, 1 << 32, top, top + 1, math.MaxInt - 1, math.MaxInt} {
			want := c.prev
			if committed >= c.batch {
				want = c.then
			}
			wantQuery(t, p.Store, c.key, committed, want, api.OK)
			for _, none := range []uint64{3, 4, 500, 1 << 32, 1<<32 + 1, lastKey - 1} {
				wantQuery(t, p.Store, none, committed, nothing, api.OK)
			}
		}
	}
	p.hold(t)
}

// TestQueryOfABatchUnderWay: who asks behind the batch ahead is told what was, whatever the next one does.
func TestQueryOfABatchUnderWay(t *testing.T) {
	p := newPairing(t, 16, 1)
	for batch := 1; batch < 8; batch++ {
		was, now := uint64(3*(batch-1)), uint64(3*batch)
		p.begin(t, api.OK, batch, 1, 2)
		for attempt := 1; attempt < 4; attempt++ {
			p.begin(t, api.OK, batch, attempt, 2)
			wantQuery(t, p.Store, 2, batch-1, api.Value{Has: was > 0, Bits: was}, api.OK)
			wantQuery(t, p.Store, 2, batch, api.Value{Has: was > 0, Bits: was}, api.OK)
			p.apply(t, api.OK, batch, attempt, pairs(2, 3)...)
			wantQuery(t, p.Store, 2, batch-1, api.Value{Has: was > 0, Bits: was}, api.OK)
			wantQuery(t, p.Store, 2, batch, val(now), api.OK)
		}
	}
}

func TestQueryReadsFewBlocks(t *testing.T) {
	for _, count := range []int{0, 1, 16, 17, 90, 96} {
		p := crowded(t, count)
		for _, key := range append(rows(999, whole+2, 1), 0, lastKey) {
			for _, committed := range []int{0, 1, 2, math.MaxInt} {
				reads, writes := p.on.Reads(), p.on.Writes()
				p.Query(key, committed)
				if n := p.on.Reads() - reads; n > 6 || p.on.Writes() != writes {
					t.Errorf("Query(%d, %d) reads %d blocks", key, committed, n)
				}
			}
		}
	}
}

// P13.6

func TestMark(t *testing.T) {
	p := newPairing(t, 16, 1)
	wantMark(t, p.Store, api.Mark{}, api.OK)
	p.begin(t, api.OK, 1, 9, 2, 5)
	wantMark(t, p.Store, marked(1, 9, 2, 5), api.OK)
	p.apply(t, api.OK, 1, 9, pairs(2, 1)...)
	wantMark(t, p.Store, marked(1, 9, 2, 5), api.OK)
	p.begin(t, api.OK, 2, 3)
	wantMark(t, p.Store, marked(2, 3), api.OK)
	p.begin(t, api.ErrFenced, 2, 2, 7)
	p.begin(t, api.ErrTwice, 2, 3, 7)
	wantMark(t, p.Store, marked(2, 3), api.OK)
}

func TestCellsByRisingKeysOverAllPages(t *testing.T) {
	p := newPairing(t, 16, 1)
	// Lower keys come later, so that they stand in later pages.
	want := []api.Cell{}
	for i := range 3 {
		keys := rows(uint64(1000-300*i), 32, 7)
		p.fill(t, i+1, keys, 5)
		list := []api.Cell{}
		for _, key := range keys {
			list = append(list, at(key, of(nothing, val(5), i+1)))
		}
		want = append(list, want...)
		wantCells(t, p.Store, api.OK, want...)
	}
	p.hold(t)
	if n := len(want); n != whole || p.Used() != 7 {
		t.Errorf("%d cells, %d blocks", n, p.Used())
	}
	// By turns: each page has every sixth key.
	lists, all := make([][]api.Cell, 6), []api.Cell{}
	for i, key := range rows(3, whole, 2) {
		c := at(key, of(nothing, val(1), 1))
		lists[5-i%6] = append(lists[5-i%6], c)
		all = append(all, c)
	}
	p = openPairing(t, 1, 7, marked(2, 1), lists...)
	wantCells(t, p.Store, api.OK, all...)
}

func TestUsed(t *testing.T) {
	for count := range whole + 1 {
		p := crowded(t, count)
		if want := 1 + (count+full-1)/full; p.Used() != want {
			t.Errorf("Used() with %d cells is %d, not %d", count, p.Used(), want)
		}
	}
	// It falls again.
	p := newPairing(t, 16, 1)
	p.fill(t, 1, rows(0, most, 1), 1)
	if p.Used() != 5 {
		t.Errorf("Used() is %d", p.Used())
	}
	p.begin(t, api.OK, 1, 2)
	if p.Used() != 1 {
		t.Errorf("Used() is %d", p.Used())
	}
	p.hold(t)
}

// TestCallsThatOnlyTellWriteNothing, whatever they are asked.
func TestCallsThatOnlyTellWriteNothing(t *testing.T) {
	p := shelves(t)
	p.refused(t, func() {
		p.tells(t, p.Store)
		p.Used()
		p.Ended()
	})
	if p.on.Writes() != 0 {
		t.Errorf("%d writes", p.on.Writes())
	}
}
