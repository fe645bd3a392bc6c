package cell

import (
	"math"
	"slices"
	"testing"

	"reprise/agg"
	"reprise/api"
)

// The three examples.

func TestExampleApply(t *testing.T) {
	wantApply(t, 1, count(0, 0, 0), 1, val(3), count(0, 3, 1), api.OK)
	wantApply(t, 1, count(0, 3, 1), 1, val(5), count(0, 5, 1), api.OK)
	wantApply(t, 1, count(0, 5, 1), 4, val(2), count(5, 7, 4), api.OK)
	wantApply(t, 1, count(5, 7, 4), 3, val(2), api.Cell{}, api.ErrBatch)
	wantApply(t, 1, count(5, 7, 4), 0, val(2), api.Cell{}, api.ErrArg)
}

func TestExampleRevert(t *testing.T) {
	wantRevert(t, count(5, 7, 4), 4, count(5, 5, 3))
	wantRevert(t, count(5, 7, 4), 3, count(5, 7, 4))
	wantRevert(t, count(0, 3, 1), 1, count(0, 0, 0))
	wantEmpty(t, Revert(count(0, 3, 1), 1), true)
}

func TestExampleResolve(t *testing.T) {
	wantResolve(t, count(5, 7, 4), 4, val(7))
	wantResolve(t, count(5, 7, 4), 3, val(5))
	wantResolve(t, count(5, 7, 4), 9, val(7))
}

// P10.1: the errors.

func TestApplyOfNoKind(t *testing.T) {
	for _, kind := range noKinds() {
		for _, c := range []api.Cell{{}, count(0, 3, 1), count(5, 7, 4), {Key: 9, Prev: void(3), Cur: val(nans()[0]), Batch: -4}} {
			for _, batch := range allBatches() {
				wantApply(t, kind, c, batch, val(1), api.Cell{}, api.ErrArg)
				wantApply(t, kind, c, batch, nothing, api.Cell{}, api.ErrArg)
			}
		}
	}
}

func TestApplyOfNoBatch(t *testing.T) {
	for _, kind := range kinds() {
		for _, batch := range noBatches() {
			for _, own := range append(allBatches(), batch) {
				wantApply(t, kind, count(5, 7, own), batch, val(1), api.Cell{}, api.ErrArg)
			}
		}
	}
}

func TestApplyOfABatchThatIsOver(t *testing.T) {
	for _, kind := range kinds() {
		for _, own := range batches() {
			for _, batch := range []int{1, 2, own / 2, own - 2, own - 1} {
				if batch >= 1 && batch < own {
					wantApply(t, kind, count(5, 7, own), batch, val(1), api.Cell{}, api.ErrBatch)
					wantApply(t, kind, api.Cell{Batch: own}, batch, nothing, api.Cell{}, api.ErrBatch)
				}
			}
		}
	}
}

func TestApplyTellsArgFirst(t *testing.T) {
	for _, kind := range noKinds() {
		wantApply(t, kind, count(5, 7, 4), 3, val(1), api.Cell{}, api.ErrArg)
		wantApply(t, kind, count(5, 7, 4), 0, val(1), api.Cell{}, api.ErrArg)
	}
	wantApply(t, 1, count(5, 7, 4), -3, val(1), api.Cell{}, api.ErrArg)
	wantApply(t, 1, count(5, 7, math.MaxInt), math.MinInt, val(1), api.Cell{}, api.ErrArg)
}

// P10.1: the batches.

func TestApplyAtTheOwnBatch(t *testing.T) {
	for _, batch := range batches() {
		wantApply(t, 1, count(5, 7, batch), batch, val(1), count(5, 6, batch), api.OK)
		wantApply(t, 1, count(5, 6, batch), batch, val(1), count(5, 6, batch), api.OK)
		wantApply(t, 1, count(5, 7, batch), batch, nothing, count(5, 5, batch), api.OK)
		wantApply(t, 1, count(0, 7, batch), batch, val(2), count(0, 2, batch), api.OK)
		wantApply(t, 1, count(0, 7, batch), batch, nothing, count(0, 0, batch), api.OK)
		wantApply(t, 1, count(5, 0, batch), batch, val(2), count(5, 7, batch), api.OK)
	}
}

func TestApplyAtALaterBatch(t *testing.T) {
	for _, own := range append(allBatches(), 0) {
		for _, batch := range batches() {
			if batch > own {
				wantApply(t, 1, count(5, 7, own), batch, val(2), count(7, 9, batch), api.OK)
				wantApply(t, 1, count(5, 7, own), batch, nothing, count(7, 7, batch), api.OK)
				wantApply(t, 1, count(5, 0, own), batch, val(2), count(0, 2, batch), api.OK)
				wantApply(t, 1, count(0, 0, own), batch, nothing, count(0, 0, batch), api.OK)
			}
		}
	}
}

func TestApplyAtEachTwoBatches(t *testing.T) {
	for _, kind := range kinds() {
		for _, own := range allBatches() {
			for _, batch := range allBatches() {
				wantApplied(t, kind, count(5, 7, own), batch, val(2))
			}
		}
	}
}

// P10.1: the values.

func TestApplyOfEachTwoValues(t *testing.T) {
	for _, kind := range kinds() {
		for _, c := range anyCells(anyValues(), 4) {
			for _, part := range someValues() {
				wantApplied(t, kind, c, 4, part)
				wantApplied(t, kind, c, 5, part)
			}
		}
	}
}

func TestApplyOfEachPart(t *testing.T) {
	for _, kind := range kinds() {
		for _, c := range anyCells(someValues(), 4) {
			for _, part := range anyValues() {
				wantApplied(t, kind, c, 4, part)
				wantApplied(t, kind, c, 9, part)
			}
		}
	}
}

// TestPrevIsNotFitted: what isn't fit stands in Prev to the bit, while Cur is made fit.
func TestPrevIsNotFitted(t *testing.T) {
	for _, kind := range []int{3, 4} {
		for _, bits := range nans() {
			bad, told := val(bits), val(api.QuietNaN)
			wantApply(t, kind, api.Cell{Key: 2, Prev: bad, Cur: val(1), Batch: 4}, 4, nothing, api.Cell{Key: 2, Prev: bad, Cur: told, Batch: 4}, api.OK)
			wantApply(t, kind, api.Cell{Key: 2, Prev: val(1), Cur: bad, Batch: 4}, 5, nothing, api.Cell{Key: 2, Prev: bad, Cur: told, Batch: 5}, api.OK)
			wantApply(t, kind, api.Cell{Key: 2}, 1, bad, api.Cell{Key: 2, Cur: told, Batch: 1}, api.OK)
		}
	}
	for _, kind := range kinds() {
		for _, bits := range words() {
			wantApply(t, kind, api.Cell{Prev: void(bits), Cur: val(1), Batch: 4}, 4, nothing, api.Cell{Prev: void(bits), Batch: 4}, api.OK)
			wantApply(t, kind, api.Cell{Prev: val(1), Cur: void(bits), Batch: 4}, 5, val(2), api.Cell{Prev: void(bits), Cur: val(2), Batch: 5}, api.OK)
			wantApply(t, kind, api.Cell{Cur: void(bits)}, 1, void(bits), api.Cell{Prev: void(bits), Batch: 1}, api.OK)
		}
	}
}

// TestApplyOfAnotherKind: a count's bits, read as those of a float, and the other way round.
func TestApplyOfAnotherKind(t *testing.T) {
	one, bad := float(1), val(0xfff8000000000001)
	wantApply(t, 1, api.Cell{Cur: one, Batch: 1}, 2, val(1), api.Cell{Prev: one, Cur: val(0x3ff0000000000001), Batch: 2}, api.OK)
	wantApply(t, 2, api.Cell{Cur: bad, Batch: 1}, 2, val(1<<64-1), api.Cell{Prev: bad, Cur: val(0xfff8000000000000), Batch: 2}, api.OK)
	wantApply(t, 3, api.Cell{Cur: val(5), Batch: 1}, 2, one, api.Cell{Prev: val(5), Cur: val(5), Batch: 2}, api.OK)
	wantApply(t, 4, api.Cell{Cur: val(5), Batch: 1}, 2, one, api.Cell{Prev: val(5), Cur: one, Batch: 2}, api.OK)
}

func TestApplyAtTheEndsOfValues(t *testing.T) {
	for _, kind := range []int{1, 2} {
		wantApply(t, kind, api.Cell{Cur: val(1<<64 - 1)}, 1, val(1), api.Cell{Prev: val(1<<64 - 1), Cur: val(0), Batch: 1}, api.OK)
		wantApply(t, kind, api.Cell{Prev: val(1 << 63), Batch: 1}, 1, val(1<<63), api.Cell{Prev: val(1 << 63), Cur: val(0), Batch: 1}, api.OK)
		wantApply(t, kind, api.Cell{Prev: val(1<<63 - 1), Batch: 1}, 1, val(1), api.Cell{Prev: val(1<<63 - 1), Cur: val(1 << 63), Batch: 1}, api.OK)
		wantApply(t, kind, api.Cell{}, 1, val(0), api.Cell{Cur: val(0), Batch: 1}, api.OK)
	}
	plus, minus, low, high, nan := float(0), float(math.Copysign(0, -1)), float(math.Inf(-1)), float(math.Inf(1)), val(api.QuietNaN)
	for _, c := range []struct{ a, b, least, most api.Value }{
		{plus, minus, minus, plus}, {minus, plus, minus, plus}, {low, high, low, high}, {high, nan, high, nan}, {nan, low, low, nan}, {nan, nan, nan, nan},
		{plus, plus, plus, plus}, {val(1), plus, plus, val(1)}, {val(1<<63 | 1), minus, val(1<<63 | 1), minus},
	} {
		wantApply(t, 3, api.Cell{Cur: c.a, Batch: 2}, 3, c.b, api.Cell{Prev: c.a, Cur: c.least, Batch: 3}, api.OK)
		wantApply(t, 4, api.Cell{Cur: c.a, Batch: 2}, 3, c.b, api.Cell{Prev: c.a, Cur: c.most, Batch: 3}, api.OK)
		wantApply(t, 3, api.Cell{Prev: c.a, Batch: 3}, 3, c.b, api.Cell{Prev: c.a, Cur: c.least, Batch: 3}, api.OK)
		wantApply(t, 4, api.Cell{Prev: c.a, Batch: 3}, 3, c.b, api.Cell{Prev: c.a, Cur: c.most, Batch: 3}, api.OK)
	}
}

func TestApplyOfOnePartTwice(t *testing.T) {
	for _, kind := range kinds() {
		for _, c := range anyCells(someValues(), 4) {
			for _, part := range anyValues() {
				once := must(t, kind, c, 6, part)
				wantApply(t, kind, once, 6, part, once, api.OK)
			}
		}
	}
	c := must(t, 1, count(5, 7, 4), 5, val(3))
	wantApply(t, 1, c, 6, val(3), count(10, 13, 6), api.OK)
}

func TestTheKeyStays(t *testing.T) {
	for _, key := range keys() {
		c := api.Cell{Key: key, Prev: val(5), Cur: val(7), Batch: 4}
		wantApply(t, 1, c, 4, val(1), api.Cell{Key: key, Prev: val(5), Cur: val(6), Batch: 4}, api.OK)
		wantApply(t, 1, c, 5, val(1), api.Cell{Key: key, Prev: val(7), Cur: val(8), Batch: 5}, api.OK)
		wantApply(t, 1, api.Cell{Key: key}, 1, nothing, api.Cell{Key: key, Batch: 1}, api.OK)
		wantRevert(t, c, 4, api.Cell{Key: key, Prev: val(5), Cur: val(5), Batch: 3})
		wantRevert(t, c, 5, c)
	}
}

// P10.2

func TestRevertOfEachTwoBatches(t *testing.T) {
	for _, own := range allBatches() {
		for _, batch := range append(allBatches(), own/2) {
			if batch == own && own > 0 {
				wantRevert(t, count(5, 7, own), batch, count(5, 5, own-1))
			} else {
				wantRevert(t, count(5, 7, own), batch, count(5, 7, own))
			}
		}
	}
}

func TestRevertBesideTheOwnBatch(t *testing.T) {
	for _, own := range batches() {
		c := count(5, 7, own)
		wantRevert(t, c, own, count(5, 5, own-1))
		wantRevert(t, c, own-1, c)
		if own < math.MaxInt {
			wantRevert(t, c, own+1, c)
		}
		wantRevert(t, c, own^(1<<40), c)
		wantRevert(t, c, own^(1<<32), c)
	}
}

func TestRevertOfNoBatch(t *testing.T) {
	for _, own := range noBatches() {
		for _, c := range anyCells(someValues(), own) {
			wantRevert(t, c, own, c)
		}
	}
}

func TestRevertOfEachTwoValues(t *testing.T) {
	for _, c := range anyCells(anyValues(), 4) {
		wantRevert(t, c, 4, api.Cell{Key: c.Key, Prev: c.Prev, Cur: c.Prev, Batch: 3})
		wantRevert(t, c, 3, c)
		wantRevert(t, c, 5, c)
	}
}

func TestRevertTwice(t *testing.T) {
	c := Revert(count(5, 7, 4), 4)
	wantRevert(t, c, 4, c)
	wantRevert(t, c, 3, count(5, 5, 2))
	wantRevert(t, Revert(count(5, 7, 1), 1), 1, count(5, 5, 0))
	wantRevert(t, Revert(count(5, 7, 1), 1), 0, count(5, 5, 0))
}

// P10.3

func TestResolveOfEachTwoBatches(t *testing.T) {
	for _, own := range allBatches() {
		for _, committed := range append(allBatches(), own/2, own) {
			want := val(5)
			if committed >= own {
				want = val(7)
			}
			wantResolve(t, count(5, 7, own), committed, want)
		}
		wantResolve(t, count(5, 7, own), own, val(7))
		if own > math.MinInt {
			wantResolve(t, count(5, 7, own), own-1, val(5))
		}
		if own < math.MaxInt {
			wantResolve(t, count(5, 7, own), own+1, val(7))
		}
	}
}

func TestResolveAsItStands(t *testing.T) {
	for _, c := range anyCells(anyValues(), 4) {
		wantResolve(t, c, 3, c.Prev)
		wantResolve(t, c, 4, c.Cur)
		wantResolve(t, c, math.MinInt, c.Prev)
		wantResolve(t, c, math.MaxInt, c.Cur)
	}
}

// P10.4

func TestEmpty(t *testing.T) {
	for _, batch := range allBatches() {
		for _, key := range keys() {
			wantEmpty(t, api.Cell{Key: key, Batch: batch}, true)
			wantEmpty(t, api.Cell{Key: key, Batch: batch, Prev: val(0)}, false)
			wantEmpty(t, api.Cell{Key: key, Batch: batch, Cur: val(0)}, false)
			wantEmpty(t, api.Cell{Key: key, Batch: batch, Prev: val(0), Cur: val(0)}, false)
		}
	}
	for _, c := range anyCells(anyValues(), 4) {
		wantEmpty(t, c, !c.Prev.Has && !c.Cur.Has)
	}
	wantEmpty(t, api.Cell{Key: 3, Prev: void(1), Cur: void(1<<64 - 1), Batch: 9}, true)
}

func TestFitOfBatches(t *testing.T) {
	for _, kind := range kinds() {
		for _, batch := range allBatches() {
			wantFit(t, kind, api.Cell{Key: 3, Batch: batch}, 0 <= batch && batch <= top)
			wantFit(t, kind, count(5, 7, batch), 0 <= batch && batch <= top)
		}
		wantFit(t, kind, count(5, 7, 0), true)
		wantFit(t, kind, count(5, 7, -1), false)
		wantFit(t, kind, count(5, 7, 1<<40), true)
		wantFit(t, kind, count(5, 7, 1<<40+1), false)
	}
}

func TestFitOfNoKind(t *testing.T) {
	for _, kind := range noKinds() {
		for _, c := range anyCells(someValues(), 4) {
			wantFit(t, kind, c, false)
		}
		wantFit(t, kind, api.Cell{}, false)
		wantFit(t, kind, api.Cell{Batch: -1}, false)
	}
}

func TestFitOfEachTwoValues(t *testing.T) {
	for _, kind := range kinds() {
		for _, c := range anyCells(anyValues(), 4) {
			wantFit(t, kind, c, fitValueOf(kind, c.Prev) && fitValueOf(kind, c.Cur))
		}
	}
}

func TestFitOfOneValue(t *testing.T) {
	for _, key := range keys() {
		for _, bits := range nans() {
			for _, kind := range kinds() {
				wantFit(t, kind, api.Cell{Key: key, Prev: val(bits)}, kind <= 2)
				wantFit(t, kind, api.Cell{Key: key, Cur: val(bits)}, kind <= 2)
				wantFit(t, kind, api.Cell{Key: key, Prev: val(api.QuietNaN), Cur: val(api.QuietNaN)}, true)
			}
		}
		for _, kind := range kinds() {
			wantFit(t, kind, api.Cell{Key: key, Prev: void(1)}, false)
			wantFit(t, kind, api.Cell{Key: key, Cur: void(1)}, false)
			wantFit(t, kind, api.Cell{Key: key, Prev: val(1), Cur: void(api.QuietNaN)}, false)
			wantFit(t, kind, api.Cell{Key: key, Prev: val(0), Cur: val(0)}, true)
		}
	}
}

// TestFitStays: a fit cell is one behind each call too, and an Apply of any part.
func TestFitStays(t *testing.T) {
	for _, kind := range kinds() {
		for _, c := range anyCells(anyValues(), 4) {
			if !Fit(kind, c) {
				continue
			}
			for _, part := range anyValues() {
				wantFit(t, kind, must(t, kind, c, 4, part), true)
				wantFit(t, kind, must(t, kind, c, top, part), true)
			}
			wantFit(t, kind, Revert(c, 4), true)
			wantFit(t, kind, Revert(c, 3), true)
		}
	}
}

// P10.5

// attempts has rows of parts of one batch, one an attempt.
func attempts() [][]api.Value {
	list := someValues()
	rows := [][]api.Value{list, slices.Repeat(list[4:5], 3)}
	for i, first := range list {
		for j := range list {
			rows = append(rows, []api.Value{first, list[j], list[(i+2*j+1)%len(list)]})
		}
	}
	return rows
}

// behind: the cell behind a row of attempts of one batch. The bits of reverts say ahead of which of them Revert stands, how often too.
func behind(t *testing.T, kind int, c api.Cell, batch int, row []api.Value, reverts int) api.Cell {
	t.Helper()
	for i, part := range row {
		for range reverts >> (2 * i) & 3 {
			c = Revert(c, batch)
		}
		c = must(t, kind, c, batch, part)
	}
	return c
}

func TestTheLastAttemptAlone(t *testing.T) {
	for _, kind := range kinds() {
		for _, batch := range []int{1, 2, 5, top, top + 1, math.MaxInt} {
			for _, row := range attempts() {
				for _, own := range []int{0, batch - 1, batch, -3, math.MinInt} {
					c := api.Cell{Key: 3, Prev: row[0], Cur: row[len(row)-1], Batch: own}
					alone := must(t, kind, c, batch, row[len(row)-1])
					for reverts := range 64 {
						if got := behind(t, kind, c, batch, row, reverts); got != alone {
							t.Fatalf("kind %d: %v behind %v of batch %d is %v, not %v", kind, c, row, batch, got, alone)
						}
					}
				}
			}
		}
	}
}

// TestRevertBringsTheValueBack: the value behind the batch ahead is what it was, with the attempts and without them.
func TestRevertBringsTheValueBack(t *testing.T) {
	for _, kind := range kinds() {
		for _, own := range []int{0, 3, 8, 9} {
			for _, c := range anyCells(someValues(), own) {
				was := Resolve(c, 8)
				for _, row := range [][]api.Value{{val(3)}, {val(1 << 63), nothing}, {void(4), val(0xfff0000000000001), val(9)}} {
					tried := behind(t, kind, c, 9, row, 0)
					wantResolve(t, tried, 8, was)
					wantResolve(t, Revert(tried, 9), 8, was)
					wantResolve(t, Revert(tried, 9), 9, was)
					wantRevert(t, tried, 9, api.Cell{Key: c.Key, Prev: was, Cur: was, Batch: 8})
				}
			}
		}
	}
}

// TestBatchesBehindEachOther: the rows of attempts of several batches make what their last attempts alone make, and behind each batch both values are told.
func TestBatchesBehindEachOther(t *testing.T) {
	numbers := []int{1, 2, 4, 5, 1000, top}
	for _, kind := range kinds() {
		for shift, rows := 0, attempts(); shift < len(rows); shift++ {
			c, alone, total := api.Cell{Key: 3}, api.Cell{Key: 3}, nothing
			for i, batch := range numbers {
				row := rows[(shift+7*i)%len(rows)]
				last := row[len(row)-1]
				c, alone = behind(t, kind, c, batch, row, 0x1b5*(shift+i)), must(t, kind, alone, batch, last)
				ahead := total
				total = merged(kind, total, last)
				if c != alone {
					t.Fatalf("kind %d: behind batch %d of the rows from %d on it is %v, not %v", kind, batch, shift, c, alone)
				}
				wantResolve(t, c, batch-1, ahead)
				wantResolve(t, c, batch, total)
				wantFit(t, kind, c, true)
			}
		}
	}
}

// P2 and P3 of the whole: what records are in all, in any order and in batches cut anywhere.

func TestRecordsInBatches(t *testing.T) {
	records := []float64{0, math.Copysign(0, -1), 1.5, -2.9, math.Inf(-1), math.MaxFloat64, math.Float64frombits(0xfff0000000000001), 5e-324, math.Inf(1), math.NaN()}
	backward := slices.Clone(records)
	slices.Reverse(backward)
	for _, kind := range kinds() {
		want := api.Value{}
		for _, x := range records {
			want = merged(kind, want, agg.Of(kind, x))
		}
		for _, row := range [][]float64{records, backward} {
			for cuts := range 1 << (len(row) - 1) {
				c := inBatches(t, kind, row, cuts)
				if c.Cur != want {
					t.Fatalf("kind %d, cuts %b: %v is not %v", kind, cuts, c.Cur, want)
				}
			}
		}
	}
}

// inBatches: the cell behind records that are cut where the bits of cuts are set; each batch comes twice, the first time with what isn't there later.
func inBatches(t *testing.T, kind int, row []float64, cuts int) api.Cell {
	t.Helper()
	c, batch, part := api.Cell{Key: 3}, 1, api.Value{}
	for i, x := range row {
		part = agg.Merge(kind, part, agg.Of(kind, x))
		if i == len(row)-1 || cuts>>i&1 == 1 {
			c = must(t, kind, c, batch, agg.Of(kind, math.NaN()))
			c = must(t, kind, c, batch, part)
			batch, part = batch+1, api.Value{}
		}
	}
	return c
}
