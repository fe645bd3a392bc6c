package fold

import (
	"math"
	"slices"
	"testing"

	"reprise/api"
)

// The three examples.

func TestExampleBatch(t *testing.T) {
	less := []api.Op{{Kind: api.OpLess, X: 10}}
	wantBatch(t, less, api.AggSum, []api.Record{rec(1, 2), rec(2, 3.5), rec(1, 20), rec(1, 4)}, []api.Pair{pair(1, 6), pair(2, 3)}, 0)
	need := []api.Op{{Kind: api.OpNeed}}
	wantBatch(t, need, api.AggCount, []api.Record{rec(5, math.NaN()), rec(5, 1)}, []api.Pair{pair(5, 1)}, 1)
	wantBatch(t, less, api.AggSum, nil, nil, 0)
}

func TestExampleAdd(t *testing.T) {
	a, b := []api.Pair{pair(1, 2), pair(3, 1)}, []api.Pair{pair(2, 1), pair(3, 4)}
	wantAdd(t, api.AggCount, a, b, []api.Pair{pair(1, 2), pair(2, 1), pair(3, 5)})
	wantNoAdd(t, api.AggCount, []api.Pair{pair(2, 1), pair(1, 1)}, nil, api.ErrOrder)
	wantNoAdd(t, api.AggCount, []api.Pair{void(1, 0)}, nil, api.ErrOrder)
}

func TestExampleFindAndKeys(t *testing.T) {
	wantFind(t, []api.Pair{pair(1, 2), pair(1, 3)}, 1, val(2))
	wantFind(t, []api.Pair{}, 1, nothing)
	wantKeys(t, []api.Pair{pair(3, 1), void(1, 0)}, []uint64{3, 1})
}

// P5.1

func TestSoundOfTables(t *testing.T) {
	for _, table := range tables() {
		wantSound(t, table, true)
		// What stands behind a list is none of its pairs.
		wantSound(t, roomy(table, void(0, 0)), true)
	}
}

func TestSoundOfNoTables(t *testing.T) {
	for _, list := range noTables() {
		wantSound(t, list, false)
	}
}

func TestSoundOfEachTwoKeys(t *testing.T) {
	keys := []uint64{0, 1, 2, 1<<32 - 1, 1 << 32, 1<<63 - 1, 1 << 63, 1<<63 + 1, last - 1, last}
	for i, a := range keys {
		for j, b := range keys {
			wantSound(t, []api.Pair{pair(a, 0), pair(b, 0)}, i < j)
		}
	}
}

func TestSoundOfEachPlace(t *testing.T) {
	for at := range 40 {
		var table []api.Pair
		for key := range uint64(40) {
			table = append(table, pair(3*key, key))
		}
		wantSound(t, table, true)
		table[at].Val.Has = false
		wantSound(t, table, false)
		table[at].Val.Has = true
		if at > 0 {
			table[at].Key = table[at-1].Key
			wantSound(t, table, false)
			table[at].Key--
			wantSound(t, table, false)
		}
	}
}

// P5.2

func TestBatchOfNoRecords(t *testing.T) {
	for _, list := range pipelines() {
		for _, kind := range kinds() {
			wantBatch(t, list, kind, nil, nil, 0)
			wantBatch(t, list, kind, []api.Record{}, nil, 0)
			wantBatch(t, list, kind, roomy(nil, rec(1, 1)), nil, 0)
		}
	}
}

func TestBatchOfOneRecord(t *testing.T) {
	for _, key := range []uint64{0, 1, 1<<63 - 1, 1 << 63, last} {
		recs := []api.Record{rec(key, -2.5)}
		wantBatch(t, nil, api.AggCount, recs, []api.Pair{pair(key, 1)}, 0)
		wantBatch(t, nil, api.AggSum, recs, []api.Pair{pair(key, minus(2))}, 0)
		wantBatch(t, nil, api.AggLeast, recs, []api.Pair{pair(key, bits(-2.5))}, 0)
		wantBatch(t, nil, api.AggMost, recs, []api.Pair{pair(key, bits(-2.5))}, 0)
	}
}

func TestBatchOfNoPipeline(t *testing.T) {
	for _, list := range noPipelines() {
		for _, recs := range [][]api.Record{nil, {}, {rec(1, 1)}, {rec(1, math.NaN()), rec(2, 0)}} {
			for _, kind := range append(kinds(), noKinds()...) {
				wantNoBatch(t, list, kind, recs, api.ErrOps)
			}
		}
	}
}

func TestBatchOfNoKind(t *testing.T) {
	for _, list := range pipelines() {
		for _, recs := range [][]api.Record{nil, {}, {rec(1, 1)}, {rec(1, math.NaN()), rec(2, 0)}} {
			for _, kind := range noKinds() {
				wantNoBatch(t, list, kind, recs, api.ErrArg)
			}
		}
	}
}

// mixed: the first pipeline below keeps some of them, drops some and traps some.
func mixed() []api.Record {
	return []api.Record{rec(9, 4), rec(1, plusInf), rec(4, -0.5), rec(9, 12), rec(4, 0), rec(7, 2.9), rec(7, -8), rec(4, math.NaN()), rec(0, 1), rec(3, minusInf)}
}

func TestBatchKeepsDropsAndTraps(t *testing.T) {
	list := []api.Op{{Kind: api.OpLess, X: 10}, {Kind: api.OpPer, N: 100}}
	// Dropped: 12, +infinity, NaN. Trapped: -0.5, 0. Kept, as 100 by them: 25, 50, -12, 100, 0.
	wantBatch(t, list, api.AggCount, mixed(), []api.Pair{pair(0, 1), pair(3, 1), pair(7, 2), pair(9, 1)}, 2)
	wantBatch(t, list, api.AggSum, mixed(), []api.Pair{pair(0, 100), pair(3, 0), pair(7, 38), pair(9, 25)}, 2)
	wantBatch(t, list, api.AggLeast, mixed(), []api.Pair{pair(0, bits(100)), pair(3, bits(0)), pair(7, bits(-12)), pair(9, bits(25))}, 2)
	wantBatch(t, list, api.AggMost, mixed(), []api.Pair{pair(0, bits(100)), pair(3, bits(0)), pair(7, bits(50)), pair(9, bits(25))}, 2)
}

func TestBatchThatKeepsNone(t *testing.T) {
	recs := []api.Record{rec(0, math.NaN()), rec(1, plusInf), rec(last, minusInf), rec(1, math.NaN())}
	for _, kind := range kinds() {
		wantBatch(t, []api.Op{{Kind: api.OpNeed}}, kind, recs, nil, 4)
		wantBatch(t, []api.Op{{Kind: api.OpMore, X: math.NaN()}}, kind, recs, nil, 0)
		wantBatch(t, []api.Op{{Kind: api.OpReal}, {Kind: api.OpNeed}}, kind, recs, nil, 2)
	}
}

func TestBatchGoesByTheKeyBehindThePipeline(t *testing.T) {
	recs := []api.Record{rec(5, 1), rec(8, 2), rec(2, 4), rec(last, 8), rec(6, 16)}
	wantBatch(t, []api.Op{{Kind: api.OpRegroup, N: 3}}, api.AggSum, recs, []api.Pair{pair(0, 24), pair(2, 7)}, 0)
	wantBatch(t, []api.Op{{Kind: api.OpRegroup, N: 1}}, api.AggSum, recs, []api.Pair{pair(0, 31)}, 0)
	recs = []api.Record{rec(1, 3), rec(1, minusNought), rec(1, -7), rec(1, math.NaN()), rec(1<<62+1, 0), rec(0, minusInf)}
	wantBatch(t, []api.Op{{Kind: api.OpSide}}, api.AggSum, recs,
		[]api.Pair{pair(0, 1<<63), pair(4, minus(7)), pair(5, 0), pair(6, 3), pair(7, 0)}, 0)
	wantBatch(t, []api.Op{{Kind: api.OpSide}}, api.AggCount, recs,
		[]api.Pair{pair(0, 1), pair(4, 1), pair(5, 2), pair(6, 1), pair(7, 1)}, 0)
}

func TestBatchAtTheEdgesOfFloats(t *testing.T) {
	recs := []api.Record{
		rec(1, 0), rec(1, minusNought), rec(2, minusNought), rec(2, 0), rec(3, float(0xfff0000000000001)), rec(3, float(0x7fffffffffffffff)),
		rec(4, plusInf), rec(4, minusInf), rec(4, math.NaN()), rec(5, 5e-324), rec(5, -5e-324),
	}
	wantBatch(t, nil, api.AggCount, recs, []api.Pair{pair(1, 2), pair(2, 2), pair(3, 2), pair(4, 3), pair(5, 2)}, 0)
	wantBatch(t, nil, api.AggSum, recs, []api.Pair{pair(1, 0), pair(2, 0), pair(3, 0), pair(4, last), pair(5, 0)}, 0)
	wantBatch(t, nil, api.AggLeast, recs,
		[]api.Pair{pair(1, 1<<63), pair(2, 1<<63), pair(3, api.QuietNaN), pair(4, bits(minusInf)), pair(5, bits(-5e-324))}, 0)
	wantBatch(t, nil, api.AggMost, recs, []api.Pair{pair(1, 0), pair(2, 0), pair(3, api.QuietNaN), pair(4, api.QuietNaN), pair(5, 1)}, 0)
}

func TestBatchSumsGoRound(t *testing.T) {
	recs := []api.Record{rec(1, plusInf), rec(2, minusInf), rec(3, plusInf), rec(1, 1), rec(2, -1), rec(3, plusInf)}
	wantBatch(t, nil, api.AggSum, recs, []api.Pair{pair(1, 1<<63), pair(2, 1<<63-1), pair(3, last-1)}, 0)
	recs = append(recs, rec(3, 2), rec(2, 1))
	wantBatch(t, nil, api.AggSum, recs, []api.Pair{pair(1, 1<<63), pair(2, 1<<63), pair(3, 0)}, 0)
}

// many: records of many keys, out of order, with values of all sorts.
func many(count int) []api.Record {
	values := []float64{3, -2.9, minusNought, 0, plusInf, math.NaN(), 1e18, minusInf, -0.5, 11}
	var recs []api.Record
	for i := range count {
		recs = append(recs, rec(uint64(i)*0x9e3779b97f4a7c15%311, values[i*7%len(values)]))
	}
	return recs
}

func TestBatchOfManyKeys(t *testing.T) {
	recs := many(2000)
	for _, list := range pipelines() {
		for _, kind := range kinds() {
			want, trapped := batch(list, kind, recs)
			// In whatever order a map is gone through, the answer is the same one.
			for range 10 {
				wantBatch(t, list, kind, recs, want, trapped)
			}
			wantSound(t, want, true)
		}
	}
}

// P5.3

func TestAddOfEachTwoTables(t *testing.T) {
	for _, kind := range kinds() {
		for _, a := range tables() {
			for _, b := range tables() {
				want := gather(kind, slices.Concat(a, b))
				wantAdd(t, kind, a, b, want)
				wantAdd(t, kind, roomy(a, void(1, 1)), roomy(b, void(0, 1)), want)
				wantSound(t, want, true)
			}
		}
	}
}

func TestAddByHowManyKeysAreInCommon(t *testing.T) {
	a := []api.Pair{pair(0, 1), pair(4, 2), pair(last, 4)}
	none := []api.Pair{pair(1, 8), pair(3, 16), pair(5, 32), pair(last-1, 64)}
	some := []api.Pair{pair(3, 8), pair(4, 16), pair(last, 32)}
	all := []api.Pair{pair(0, 8), pair(4, 16), pair(last, 32)}
	wantAdd(t, api.AggSum, a, none, []api.Pair{pair(0, 1), pair(1, 8), pair(3, 16), pair(4, 2), pair(5, 32), pair(last-1, 64), pair(last, 4)})
	wantAdd(t, api.AggSum, a, some, []api.Pair{pair(0, 1), pair(3, 8), pair(4, 18), pair(last, 36)})
	wantAdd(t, api.AggSum, a, all, []api.Pair{pair(0, 9), pair(4, 18), pair(last, 36)})
	wantAdd(t, api.AggSum, a, a, []api.Pair{pair(0, 2), pair(4, 4), pair(last, 8)})
	wantAdd(t, api.AggSum, a, nil, a)
	wantAdd(t, api.AggSum, a, []api.Pair{}, a)
	wantAdd(t, api.AggSum, nil, []api.Pair{}, nil)
	wantAdd(t, api.AggLeast, a, all, a)
	wantAdd(t, api.AggMost, a, all, all)
}

func TestAddOfValuesThatAreNotFit(t *testing.T) {
	nan := uint64(0xfff0000000000001)
	a, b := []api.Pair{pair(1, nan), pair(2, nan), pair(3, nan)}, []api.Pair{pair(2, bits(-1)), pair(3, 0x7fffffffffffffff)}
	wantAdd(t, api.AggLeast, a, b, []api.Pair{pair(1, api.QuietNaN), pair(2, bits(-1)), pair(3, api.QuietNaN)})
	wantAdd(t, api.AggMost, a, b, []api.Pair{pair(1, api.QuietNaN), pair(2, api.QuietNaN), pair(3, api.QuietNaN)})
	// Of a count and of a sum every number is fit.
	for _, kind := range []int{api.AggCount, api.AggSum} {
		wantAdd(t, kind, a, nil, a)
		wantAdd(t, kind, a[:1], b, []api.Pair{pair(1, nan), b[0], b[1]})
	}
}

func TestAddGoesRound(t *testing.T) {
	a := []api.Pair{pair(1, last), pair(2, 1<<63), pair(3, 1<<63-1), pair(4, last)}
	b := []api.Pair{pair(1, 1), pair(2, 1<<63), pair(3, 1), pair(4, last)}
	for _, kind := range []int{api.AggCount, api.AggSum} {
		// A value of 0 is something.
		wantAdd(t, kind, a, b, []api.Pair{pair(1, 0), pair(2, 0), pair(3, 1<<63), pair(4, last-1)})
	}
}

func TestAddOfNoughtsAndInfinities(t *testing.T) {
	a := []api.Pair{pair(1, bits(0)), pair(2, bits(plusInf)), pair(3, bits(minusInf))}
	b := []api.Pair{pair(1, bits(minusNought)), pair(2, bits(minusInf)), pair(3, api.QuietNaN)}
	wantAdd(t, api.AggLeast, a, b, []api.Pair{pair(1, bits(minusNought)), pair(2, bits(minusInf)), pair(3, bits(minusInf))})
	wantAdd(t, api.AggMost, a, b, []api.Pair{pair(1, bits(0)), pair(2, bits(plusInf)), pair(3, api.QuietNaN)})
}

func TestAddOfNoKind(t *testing.T) {
	for _, kind := range noKinds() {
		for _, list := range append(tables(), noTables()...) {
			wantNoAdd(t, kind, list, nil, api.ErrArg)
			wantNoAdd(t, kind, list, []api.Pair{pair(1, 1)}, api.ErrArg)
			wantNoAdd(t, kind, list, []api.Pair{void(1, 1)}, api.ErrArg)
		}
	}
}

func TestAddOfNoTables(t *testing.T) {
	for _, kind := range kinds() {
		for _, bad := range noTables() {
			for _, other := range append(tables(), noTables()...) {
				wantNoAdd(t, kind, bad, other, api.ErrOrder)
			}
		}
	}
}

// P3 of the whole: in whatever order and in whatever parts.

// handfuls has five records each: keys twice, kept, dropped and trapped ones, sums that go round, floats at their edges.
func handfuls() [][]api.Record {
	return [][]api.Record{
		{rec(1, 2), rec(2, 3.5), rec(1, 20), rec(1, 4), rec(0, 7)},
		{rec(7, minusNought), rec(7, 0), rec(7, minusInf), rec(7, math.NaN()), rec(7, float(0xfff0000000000001))},
		{rec(last, plusInf), rec(0, 1), rec(last, plusInf), rec(0, minusInf), rec(last, 3)},
		{rec(2, -3), rec(4, 0), rec(2, math.NaN()), rec(4, minusNought), rec(3, 0.5)},
	}
}

func TestPartsInEveryOrder(t *testing.T) {
	for _, list := range pipelines() {
		for _, kind := range kinds() {
			for _, recs := range handfuls() {
				want, trapped := batch(list, kind, recs)
				for _, order := range orders(recs) {
					wantBatch(t, list, kind, order, want, trapped)
					wantParts(t, list, kind, order)
				}
			}
		}
	}
}

// wantParts holds the batch at once against all ways to cut it in two and put the parts together.
func wantParts(t *testing.T, list []api.Op, kind int, recs []api.Record) {
	t.Helper()
	want, trapped, _ := Batch(list, kind, recs)
	for cut := range len(recs) + 1 {
		a, n, _ := Batch(list, kind, recs[:cut])
		b, m, _ := Batch(list, kind, recs[cut:])
		wantAdd(t, kind, a, b, want)
		if n+m != trapped {
			t.Errorf("Batch(%v, %d, %v) in two parts traps %d and %d, not %d", list, kind, recs, n, m, trapped)
		}
	}
}

func TestPartsOfOneRecordEach(t *testing.T) {
	recs := many(500)
	for _, list := range pipelines() {
		for _, kind := range kinds() {
			want, _ := batch(list, kind, recs)
			var behind, ahead []api.Pair
			for _, r := range recs {
				part, _, _ := Batch(list, kind, []api.Record{r})
				behind, _ = Add(kind, behind, part)
				ahead, _ = Add(kind, part, ahead)
			}
			if !slices.Equal(behind, want) || !slices.Equal(ahead, want) {
				t.Errorf("pipeline %v, kind %d: %v and %v, not %v", list, kind, behind, ahead, want)
			}
		}
	}
}

func TestThreePartsInBothGroupings(t *testing.T) {
	for _, kind := range kinds() {
		for _, a := range tables() {
			for _, b := range tables() {
				for _, c := range tables() {
					ab, _ := Add(kind, a, b)
					bc, _ := Add(kind, b, c)
					want := gather(kind, slices.Concat(a, b, c))
					wantAdd(t, kind, ab, c, want)
					wantAdd(t, kind, a, bc, want)
				}
			}
		}
	}
}

// P5.4

func TestFindOfAnyList(t *testing.T) {
	for _, list := range append(tables(), noTables()...) {
		for _, key := range []uint64{0, 1, 2, 3, 4, 5, 6, 1<<63 - 1, 1 << 63, 1<<63 + 1, last - 1, last} {
			want := nothing
			for _, p := range slices.Backward(list) {
				if p.Key == key {
					want = p.Val
				}
			}
			wantFind(t, list, key, want)
			// What stands behind a list is none of its pairs.
			wantFind(t, roomy(list, pair(key, 77)), key, want)
		}
	}
}

func TestFindAnswersWhatStands(t *testing.T) {
	list := []api.Pair{pair(9, 0xfff0000000000001), void(2, 7), pair(2, 3), pair(0, 0), pair(9, 1), void(last, 0), pair(last, 4)}
	wantFind(t, list, 9, val(0xfff0000000000001))
	wantFind(t, list, 2, api.Value{Bits: 7})
	wantFind(t, list, 0, val(0))
	wantFind(t, list, last, nothing)
	wantFind(t, list, 1, nothing)
	wantFind(t, nil, 0, nothing)
	wantFind(t, []api.Pair{}, last, nothing)
}

func TestKeysOfAnyList(t *testing.T) {
	wantKeys(t, nil, nil)
	wantKeys(t, []api.Pair{}, nil)
	wantKeys(t, []api.Pair{pair(0, 0)}, []uint64{0})
	wantKeys(t, []api.Pair{void(last, 3)}, []uint64{last})
	wantKeys(t, []api.Pair{pair(3, 1), pair(3, 1), void(1, 5), pair(last, 1), pair(0, 1), pair(3, 2)}, []uint64{3, 3, 1, last, 0, 3})
	for _, list := range append(tables(), noTables()...) {
		var want []uint64
		for _, p := range list {
			want = append(want, p.Key)
		}
		wantKeys(t, roomy(list, junk()), want)
	}
}

// P5.5

func sameRecord(a api.Record, b api.Record) bool { return a.Key == b.Key && bits(a.Val) == bits(b.Val) }

func sameOp(a api.Op, b api.Op) bool { return a.Kind == b.Kind && a.N == b.N && bits(a.X) == bits(b.X) }

func TestBatchLeavesWhatIsHandedIn(t *testing.T) {
	for _, plain := range append(pipelines(), noPipelines()...) {
		for _, kind := range append(kinds(), noKinds()...) {
			list, recs := roomy(plain, api.Op{Kind: 77, N: 77, X: 77}), roomy(mixed(), rec(77, 77))
			wasList, wasRecs := slices.Clone(list[:cap(list)]), slices.Clone(recs[:cap(recs)])
			want, trapped, e := Batch(list, kind, recs)
			kept := slices.Clone(want)
			spoil(want, junk())
			if !slices.EqualFunc(list[:cap(list)], wasList, sameOp) || !slices.EqualFunc(recs[:cap(recs)], wasRecs, sameRecord) {
				t.Fatalf("Batch(%v, %d, ..) has changed what was handed in", plain, kind)
			}
			again, trappedAgain, eAgain := Batch(list, kind, recs)
			if !slices.Equal(again, kept) || trappedAgain != trapped || eAgain != e {
				t.Fatalf("Batch(%v, %d, ..) was %v and is %v", plain, kind, kept, again)
			}
		}
	}
}

func TestAddLeavesWhatIsHandedIn(t *testing.T) {
	for _, kind := range append(kinds(), noKinds()...) {
		for _, plainA := range append(tables(), noTables()...) {
			for _, plainB := range append(tables(), noTables()...) {
				a, b := roomy(plainA, pair(77, 1)), roomy(plainB, pair(78, 1))
				wasA, wasB := slices.Clone(a[:cap(a)]), slices.Clone(b[:cap(b)])
				want, e := Add(kind, a, b)
				kept := slices.Clone(want)
				spoil(want, junk())
				if !slices.Equal(a[:cap(a)], wasA) || !slices.Equal(b[:cap(b)], wasB) {
					t.Fatalf("Add(%d, %v, %v) has changed what was handed in", kind, plainA, plainB)
				}
				if again, eAgain := Add(kind, a, b); !slices.Equal(again, kept) || eAgain != e {
					t.Fatalf("Add(%d, %v, %v) was %v and is %v", kind, plainA, plainB, kept, again)
				}
			}
		}
	}
}

func TestTheOthersLeaveWhatIsHandedIn(t *testing.T) {
	for _, plain := range append(tables(), noTables()...) {
		table := roomy(plain, pair(77, 1))
		was := slices.Clone(table[:cap(table)])
		sound, value, keys := Sound(table), Find(table, 1), Keys(table)
		kept := slices.Clone(keys)
		spoil(keys, 99)
		if !slices.Equal(table[:cap(table)], was) {
			t.Fatalf("the list %v has changed", plain)
		}
		if Sound(table) != sound || Find(table, 1) != value || !slices.Equal(Keys(table), kept) {
			t.Fatalf("the list %v is answered something else the second time", plain)
		}
	}
}

// TestAnswersAreNotKept: what is handed in changes behind the call; the answer doesn't.
func TestAnswersAreNotKept(t *testing.T) {
	recs := mixed()
	table, _, _ := Batch(nil, api.AggLeast, recs)
	sum, _ := Add(api.AggLeast, table, nil)
	keys := Keys(sum)
	was, wasKeys := slices.Clone(sum), slices.Clone(keys)
	spoil(recs, rec(77, 77))
	if !slices.Equal(table, was) {
		t.Error("Batch's answer hangs on its records")
	}
	spoil(table, junk())
	if !slices.Equal(sum, was) {
		t.Error("Add's answer hangs on its tables")
	}
	spoil(sum, junk())
	if !slices.Equal(keys, wasKeys) {
		t.Error("Keys' answer hangs on its table")
	}
}
