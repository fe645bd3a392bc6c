package spout

import (
	"math"
	"slices"
	"testing"

	"reprise/api"
)

// The three examples.

func TestExampleForm(t *testing.T) {
	s := newBench(t, 3, 1)
	a, b, d := rec(0, 0), rec(0, 1), rec(1, 0)
	wantForm(t, s.Source, ends(0, 0), 2, ends(2, 1), []api.Record{a, b, d}, api.OK)
	s.turn(t, 0, false)
	wantForm(t, s.Source, ends(0, 0), 2, ends(0, 1), []api.Record{d}, api.OK)
	s.turn(t, 0, true)
	wantForm(t, s.Source, ends(3, 1), 2, ends(3, 1), nil, api.OK)
	wantForm(t, s.Source, ends(4, 0), 2, nil, nil, api.ErrEnds)
	wantForm(t, s.Source, ends(0), 2, nil, nil, api.ErrEnds)
	wantForm(t, s.Source, ends(-1, 0), 2, nil, nil, api.ErrEnds)
	wantForm(t, s.Source, ends(4, 0), 17, nil, nil, api.ErrArg)
}

func TestExampleAgain(t *testing.T) {
	s := newBench(t, 3, 1)
	b, c, d := rec(0, 1), rec(0, 2), rec(1, 0)
	wantAgain(t, s.Source, ends(1, 0), ends(3, 1), []api.Record{b, c, d}, api.OK)
	wantAgain(t, s.Source, ends(1, 0), ends(0, 1), nil, api.ErrEnds)
	wantLeft(t, s.Source, ends(1, 0), 3, api.OK)
}

func TestExampleStep(t *testing.T) {
	one := triple(1, ends(0, 0), ends(2, 1))
	wantStep(t, triple(0, ends(0, 0), ends(0, 0)), ends(2, 1), one, api.OK)
	wantNoStep(t, one, ends(1, 1), api.ErrEnds)
	wantAt(t, one, 0, ends(0, 0), true)
	wantAt(t, one, 1, ends(2, 1), true)
	wantAt(t, one, 2, nil, false)
	wantAt(t, one, -1, nil, false)
	wantAt(t, triple(0, ends(0), ends(0)), -1, nil, false)
}

// The nil source.

func TestNilSource(t *testing.T) {
	lists := [][]int{nil, {}, {0}, {-1}, {0, 0}, {math.MaxInt, math.MinInt}, {0, 0, 0, 0}, make([]int, 9)}
	for _, from := range lists {
		for _, most := range append(noMosts(), 1, 16) {
			wantForm(t, nil, from, most, nil, nil, api.ErrNil)
		}
		for _, to := range lists {
			wantAgain(t, nil, from, to, nil, api.ErrNil)
		}
		wantLeft(t, nil, from, 0, api.ErrNil)
	}
}

// P7.1

func TestFormOfEachMost(t *testing.T) {
	s := newBench(t, 40, 0, 5, 16)
	for most := 1; most <= 16; most++ {
		for off := range 16 {
			s.turnAll(t, off)
			for _, from := range [][]int{{0, 0, 0, 0}, {1, 0, 4, 15}, {24, 0, 5, 16}, {25, 0, 1, 1}, {23, 0, 2, 0}, {39, 0, 0, 8}, {40, 0, 5, 16}} {
				to, recs, code := s.formed(from, most)
				wantForm(t, s.Source, from, most, to, recs, code)
			}
		}
		s.hold(t)
	}
}

// TestFormWithWhatIsLeft: fewer records are left than most, just as many, and more.
func TestFormWithWhatIsLeft(t *testing.T) {
	for _, most := range []int{1, 2, 15, 16} {
		for left := most - 1; left <= most+1; left++ {
			s := newBench(t, 20+left)
			taken := min(left, most)
			wantForm(t, s.Source, ends(20), most, ends(20+taken), s.logs[0][20:20+taken], api.OK)
			s.turn(t, 0, false)
			wantForm(t, s.Source, ends(20), most, ends(20), nil, api.OK)
		}
	}
}

func TestFormOfFullPartitions(t *testing.T) {
	s := newBench(t, 256, 256, 256, 256)
	wantForm(t, s.Source, ends(240, 239, 241, 0), 16, ends(256, 255, 256, 16),
		slices.Concat(s.logs[0][240:], s.logs[1][239:255], s.logs[2][241:], s.logs[3][:16]), api.OK)
	wantForm(t, s.Source, ends(256, 256, 256, 256), 16, ends(256, 256, 256, 256), nil, api.OK)
	s.hold(t)
}

func TestFormOfEachNumberOfPartitions(t *testing.T) {
	for _, counts := range [][]int{{0}, {2}, {0, 0}, {2, 1}, {1, 0, 2}, {1, 2, 0, 1}} {
		s := newBench(t, counts...)
		for off := range 1 << len(counts) {
			s.turnAll(t, off)
			for _, from := range s.allEnds() {
				for most := 1; most <= 3; most++ {
					to, recs, code := s.formed(from, most)
					if code != api.OK {
						t.Fatalf("the ends %v don't fit the bench", from)
					}
					wantForm(t, s.Source, from, most, to, recs, code)
				}
			}
		}
		s.hold(t)
	}
}

func TestFormOfNoMost(t *testing.T) {
	s := newBench(t, 20, 3)
	for _, off := range []int{0, 1, 3} {
		s.turnAll(t, off)
		for _, most := range noMosts() {
			for _, from := range append(s.noEnds(), ends(0, 0), ends(20, 3)) {
				wantForm(t, s.Source, from, most, nil, nil, api.ErrArg)
			}
		}
	}
	s.hold(t)
}

func TestFormOfNoEnds(t *testing.T) {
	for _, counts := range [][]int{{0}, {3}, {20, 3}, {1, 0, 2}, {1, 2, 0, 256}} {
		s := newBench(t, counts...)
		for _, off := range []int{0, 1, 1<<len(counts) - 1} {
			s.turnAll(t, off)
			for _, from := range s.noEnds() {
				for _, most := range []int{1, 2, 16} {
					wantForm(t, s.Source, from, most, nil, nil, api.ErrEnds)
				}
			}
		}
		s.hold(t)
	}
}

// TestBatchesBehindOneAnother: partitions go off and on and grow between the batches, and yet each record is in one batch.
func TestBatchesBehindOneAnother(t *testing.T) {
	for _, most := range []int{1, 3, 16} {
		s := newBench(t, 5, 0, 40)
		from := ends(0, 0, 0)
		taken := make([][]api.Record, 3)
		var steps [][]int
		var batches [][]api.Record
		for i := range 150 {
			s.turnAll(t, i*5%8)
			s.grow(t, i%3, i%2)
			to, recs, code := s.formed(from, most)
			wantForm(t, s.Source, from, most, to, recs, code)
			steps, batches = append(steps, from), append(batches, recs)
			for _, r := range recs {
				p := int(r.Val) / 1000
				taken[p] = append(taken[p], r)
			}
			from = to
		}
		steps = append(steps, from)
		for p, log := range s.logs {
			if !sameRecords(taken[p], log[:from[p]]) {
				t.Errorf("the batches of most %d took %v of partition %d", most, taken[p], p)
			}
		}
		// What was formed comes again as it was, whatever is off by now.
		for off := range 8 {
			s.turnAll(t, off)
			for i, recs := range batches {
				wantAgain(t, s.Source, steps[i], steps[i+1], recs, api.OK)
			}
		}
		s.hold(t)
	}
}

// P7.2

func TestAgainOfAllEnds(t *testing.T) {
	for _, counts := range [][]int{{0}, {4}, {2, 3}, {0, 2, 1}, {1, 1, 0, 2}} {
		s := newBench(t, counts...)
		for _, off := range []int{0, 1, 2, 1<<len(counts) - 1} {
			s.turnAll(t, off)
			for _, from := range s.allEnds() {
				for _, to := range s.allEnds() {
					recs, code := s.again(from, to)
					wantAgain(t, s.Source, from, to, recs, code)
				}
			}
		}
		s.hold(t)
	}
}

func TestAgainOfEndsThatFallAndRise(t *testing.T) {
	s := newBench(t, 5, 5)
	for off := range 4 {
		s.turnAll(t, off)
		wantAgain(t, s.Source, ends(2, 2), ends(1, 5), nil, api.ErrEnds)
		wantAgain(t, s.Source, ends(2, 2), ends(5, 1), nil, api.ErrEnds)
		wantAgain(t, s.Source, ends(2, 2), ends(1, 1), nil, api.ErrEnds)
		wantAgain(t, s.Source, ends(2, 2), ends(2, 2), nil, api.OK)
		wantAgain(t, s.Source, ends(2, 2), ends(2, 5), s.logs[1][2:], api.OK)
		wantAgain(t, s.Source, ends(2, 2), ends(3, 3), []api.Record{rec(0, 2), rec(1, 2)}, api.OK)
		wantAgain(t, s.Source, ends(0, 0), ends(5, 5), slices.Concat(s.logs[0], s.logs[1]), api.OK)
	}
}

func TestAgainIsNotBoundByMost(t *testing.T) {
	s := newBench(t, 256, 17, 256, 256)
	all := slices.Concat(s.logs...)
	wantAgain(t, s.Source, ends(0, 0, 0, 0), ends(256, 17, 256, 256), all, api.OK)
	s.turnAll(t, 15)
	wantAgain(t, s.Source, ends(0, 0, 0, 0), ends(256, 17, 256, 256), all, api.OK)
	s.hold(t)
}

func TestAgainOfNoEnds(t *testing.T) {
	for _, counts := range [][]int{{0}, {3}, {2, 3}, {1, 0, 2}, {1, 2, 0, 256}} {
		s := newBench(t, counts...)
		nought := make([]int, len(counts))
		for _, none := range s.noEnds() {
			wantAgain(t, s.Source, none, counts, nil, api.ErrEnds)
			wantAgain(t, s.Source, nought, none, nil, api.ErrEnds)
			// They go on from themselves, and yet fit nothing.
			wantAgain(t, s.Source, none, none, nil, api.ErrEnds)
		}
		s.hold(t)
	}
}

// TestAgainBehindMoreRecords: ends that Form answered are the same records when their partitions have grown and are off.
func TestAgainBehindMoreRecords(t *testing.T) {
	s := newBench(t, 9, 2)
	s.turn(t, 1, false)
	from := ends(4, 1)
	to, recs, code := Form(s.Source, from, 3)
	if !slices.Equal(to, ends(7, 1)) || code != api.OK {
		t.Fatalf("Form is %v, %v, %d", to, recs, code)
	}
	was := slices.Clone(recs)
	s.grow(t, 0, 100)
	s.grow(t, 1, 100)
	for off := range 4 {
		s.turnAll(t, off)
		wantAgain(t, s.Source, from, to, was, api.OK)
	}
	// A second Form from the same ends may be something else.
	s.turnAll(t, 1)
	wantForm(t, s.Source, from, 3, ends(4, 4), s.logs[1][1:4], api.OK)
	if !sameRecords(recs, was) || !slices.Equal(to, ends(7, 1)) {
		t.Errorf("what Form answered is %v, %v now", to, recs)
	}
}

// P7.3

func TestForward(t *testing.T) {
	least, most := math.MinInt, math.MaxInt
	for _, c := range []struct {
		a, b []int
		want bool
	}{
		{nil, nil, true},
		{nil, ends(), true},
		{ends(), nil, true},
		{nil, ends(0), false},
		{ends(0), nil, false},
		{ends(0), ends(0, 0), false},
		{ends(0, 0), ends(0), false},
		{ends(0, 0), ends(5), false},
		{ends(0), ends(0), true},
		{ends(3), ends(2), false},
		{ends(3), ends(4), true},
		{ends(-3), ends(-2), true},
		{ends(-2), ends(-3), false},
		{ends(-1), ends(0), true},
		{ends(0), ends(-1), false},
		{ends(least), ends(most), true},
		{ends(most), ends(least), false},
		{ends(least), ends(least), true},
		{ends(most), ends(most), true},
		{ends(least, most), ends(most, least), false},
		{ends(1, 2, 3), ends(1, 2, 3), true},
		{ends(1, 2, 3), ends(2, 3, 4), true},
		{ends(1, 2, 3), ends(0, 3, 4), false},
		{ends(1, 2, 3), ends(2, 1, 4), false},
		{ends(1, 2, 3), ends(2, 3, 2), false},
		{make([]int, 300), make([]int, 300), true},
		{make([]int, 300), append(make([]int, 299), -1), false},
		{make([]int, 300), append(make([]int, 299), 1), true},
	} {
		wantForward(t, c.a, c.b, c.want)
	}
}

func TestLeftAtAllEnds(t *testing.T) {
	for _, counts := range [][]int{{0}, {4}, {2, 3}, {0, 2, 1}, {1, 1, 0, 2}} {
		s := newBench(t, counts...)
		for _, off := range []int{0, 1, 1<<len(counts) - 1} {
			s.turnAll(t, off)
			for _, list := range s.allEnds() {
				n, code := s.left(list)
				wantLeft(t, s.Source, list, n, code)
			}
			for _, none := range s.noEnds() {
				wantLeft(t, s.Source, none, 0, api.ErrEnds)
			}
		}
		s.hold(t)
	}
}

func TestLeftOfFullPartitions(t *testing.T) {
	s := newBench(t, 256, 256, 256, 256)
	wantLeft(t, s.Source, ends(0, 0, 0, 0), 1024, api.OK)
	wantLeft(t, s.Source, ends(256, 256, 256, 256), 0, api.OK)
	wantLeft(t, s.Source, ends(256, 255, 0, 1), 1+256+255, api.OK)
	wantLeft(t, s.Source, ends(257, 0, 0, 0), 0, api.ErrEnds)
	// Two that are off by one each way would make up for one another.
	wantLeft(t, s.Source, ends(257, 255, 0, 0), 0, api.ErrEnds)
	wantLeft(t, s.Source, ends(-1, 1, 0, 0), 0, api.ErrEnds)
}

// P7.4

// wrongTriples are right in all but one thing.
func wrongTriples() []api.Triple {
	return []api.Triple{
		triple(-1, ends(0, 0), ends(0, 0)),
		triple(-1, nil, nil),
		triple(math.MinInt, ends(1, 1), ends(1, 1)),
		triple(2, ends(1, 1), ends(0, 2)),
		triple(2, ends(1, 1), ends(2, 0)),
		triple(2, ends(-1, 1), ends(2, 2)),
		triple(2, ends(1, -1), ends(2, 2)),
		triple(2, ends(-1, 1), ends(-1, 2)),
		triple(2, ends(1, math.MinInt), ends(1, math.MinInt)),
		triple(2, ends(1), ends(1, 1)),
		triple(2, ends(1, 1), ends(1)),
		triple(2, nil, ends(1)),
		triple(2, ends(0), nil),
		triple(0, ends(0, 0), ends(1, 0)),
		triple(0, ends(0, 0), ends(0, 1)),
		triple(0, ends(1, 1), ends(1, 1)),
		triple(0, ends(-1, 0), ends(0, 0)),
		triple(0, ends(0, math.MinInt), ends(0, 0)),
		triple(0, ends(-1), ends(-1)),
		triple(0, nil, ends(0)),
		triple(0, ends(0), nil),
	}
}

func TestStepOfRightTriples(t *testing.T) {
	most := math.MaxInt
	for _, c := range []struct {
		t  api.Triple
		to []int
	}{
		{triple(0, nil, nil), nil},
		{triple(0, nil, ends()), ends()},
		{triple(7, nil, nil), nil},
		{triple(0, ends(0), ends(0)), ends(0)},
		{triple(0, ends(0, 0, 0, 0), ends(0, 0, 0, 0)), ends(9, 0, 1, 16)},
		{triple(1, ends(0, 0), ends(0, 0)), ends(0, 0)},
		{triple(1, ends(3, 0), ends(3, 5)), ends(3, 5)},
		{triple(1, ends(3, 0), ends(4, 5)), ends(4, 6)},
		{triple(5, ends(3), ends(300)), ends(400)},
		{triple(5, ends(most, 0), ends(most, most)), ends(most, most)},
		{triple(5, make([]int, 300), make([]int, 300)), slices.Repeat(ends(8), 300)},
		{triple(1<<40-2, ends(1), ends(2)), ends(3)},
		{triple(1<<40-1, ends(1), ends(2)), ends(3)},
		{triple(1<<32, ends(1), ends(2)), ends(2)},
	} {
		wantStep(t, c.t, c.to, triple(c.t.Batch+1, c.t.Cur, c.to), api.OK)
	}
}

func TestStepOfWrongTriples(t *testing.T) {
	for _, tr := range wrongTriples() {
		for _, to := range [][]int{tr.Cur, tr.Prev, nil, ends(0, 0), ends(9, 9), ends(9), ends(math.MaxInt, math.MaxInt)} {
			wantNoStep(t, tr, to, api.ErrEnds)
		}
	}
}

func TestStepToEndsThatDoNotGoOn(t *testing.T) {
	for _, batch := range []int{1, 9, 1<<40 - 1, 1 << 40, 1<<40 + 1, math.MaxInt} {
		for _, to := range [][]int{nil, {3}, {3, 4, 4}, {2, 4}, {3, 3}, {2, 5}, {4, 3}, {-1, 9}, {9, math.MinInt}, {0, 0}} {
			wantNoStep(t, triple(batch, ends(1, 2), ends(3, 4)), to, api.ErrEnds)
		}
	}
	wantNoStep(t, triple(0, ends(0, 0), ends(0, 0)), ends(-1, 0), api.ErrEnds)
	wantNoStep(t, triple(0, nil, nil), ends(0), api.ErrEnds)
}

func TestStepOfTheLastBatch(t *testing.T) {
	for _, batch := range []int{1 << 40, 1<<40 + 1, 1 << 41, 1 << 62, math.MaxInt - 1, math.MaxInt} {
		wantNoStep(t, triple(batch, nil, nil), nil, api.ErrArg)
		wantNoStep(t, triple(batch, ends(1, 2), ends(3, 4)), ends(3, 4), api.ErrArg)
		wantNoStep(t, triple(batch, ends(1, 2), ends(3, 4)), ends(30, 40), api.ErrArg)
		for _, tr := range wrongTriples() {
			if tr.Batch == 2 {
				tr.Batch = batch
				wantNoStep(t, tr, tr.Cur, api.ErrEnds)
			}
		}
	}
}

func TestStepByStep(t *testing.T) {
	tr := triple(0, ends(0, 0), ends(0, 0))
	was := ends(0, 0)
	for i := range 50 {
		to := ends(tr.Cur[0]+i%3, tr.Cur[1]+i%2)
		next, code := Step(tr, to)
		if code != api.OK || !sameTriple(next, triple(i+1, was, to)) {
			t.Fatalf("Step(%v, %v) is %v, %d", tr, to, next, code)
		}
		wantAt(t, next, i, was, true)
		wantAt(t, next, i+1, to, true)
		tr, was = next, to
	}
}

func TestAtOfAnyTriple(t *testing.T) {
	least, most := math.MinInt, math.MaxInt
	for _, tr := range append(wrongTriples(),
		triple(0, ends(0, 0), ends(0, 0)),
		triple(0, ends(5), ends(6, 7)),
		triple(1, ends(5), ends(6)),
		triple(2, ends(0, 0), ends(3, 4)),
		triple(9, ends(9, 9), ends(1, 1)),
		triple(1<<40, ends(1), ends(2)),
		triple(1<<40+1, ends(1), ends(2)),
		triple(most, ends(1), ends(2)),
		triple(least, ends(1), ends(2)),
		triple(least+1, ends(1), ends(2)),
		triple(-9, ends(-5, -6), ends(-7)),
	) {
		wantAt(t, tr, tr.Batch, tr.Cur, true)
		if tr.Batch >= 1 {
			wantAt(t, tr, tr.Batch-1, tr.Prev, true)
		}
		for _, batch := range []int{least, least + 1, -10, -9, -8, -2, -1, 0, 1, 2, 3, 8, 9, 10, 1<<40 - 2, 1<<40 - 1, 1 << 40, 1<<40 + 1, 1<<40 + 2, most - 2, most - 1, most} {
			switch {
			case batch == tr.Batch:
				wantAt(t, tr, batch, tr.Cur, true)
			case batch >= 0 && tr.Batch >= 0 && tr.Batch-batch == 1:
				wantAt(t, tr, batch, tr.Prev, true)
			default:
				wantAt(t, tr, batch, nil, false)
			}
		}
	}
}

func TestAtWhereOneLessGoesRound(t *testing.T) {
	wantAt(t, triple(math.MinInt, ends(1), ends(2)), math.MaxInt, nil, false)
	wantAt(t, triple(math.MaxInt, ends(1), ends(2)), math.MinInt, nil, false)
	wantAt(t, triple(math.MinInt, ends(1), ends(2)), math.MinInt, ends(2), true)
	wantAt(t, triple(math.MaxInt, ends(1), ends(2)), math.MaxInt-1, ends(1), true)
	wantAt(t, triple(-4, ends(1), ends(2)), -5, nil, false)
	wantAt(t, triple(0, ends(1), ends(2)), -1, nil, false)
	wantAt(t, triple(1, ends(1), ends(2)), 0, ends(1), true)
}

// P7.5; the helpers of all tests above hold what is handed in to it too.

func TestFormAnswersNewMemory(t *testing.T) {
	s := newBench(t, 6, 6)
	for off := range 4 {
		s.turnAll(t, off)
		// Of ends that stay where they are too.
		for _, from := range [][]int{{0, 0}, {3, 5}, {6, 6}} {
			in := roomy(from, 77)
			wantTo, wantRecs, _ := s.formed(from, 4)
			to, recs, _ := Form(s.Source, in, 4)
			toAgain, recsAgain, _ := Form(s.Source, in, 4)
			again, _ := Again(s.Source, in, to)
			spoil(recs, api.Record{Key: 99, Val: 99})
			if !slices.Equal(to, wantTo) {
				t.Errorf("the two lists of Form(s, %v, 4) share memory", from)
			}
			spoil(to, 99)
			spoil(in, 99)
			if !slices.Equal(toAgain, wantTo) || !sameRecords(recsAgain, wantRecs) || !sameRecords(again, wantRecs) {
				t.Errorf("answers of Form(s, %v, 4) share memory", from)
			}
			spoil(recsAgain, api.Record{Key: 99, Val: 99})
			spoil(again, api.Record{Key: 99, Val: 99})
			s.hold(t)
		}
	}
}

func TestAgainAnswersNewMemory(t *testing.T) {
	// One partition alone, and one behind an empty one, might be handed out as they are.
	for _, counts := range [][]int{{9}, {0, 9}, {9, 0}, {9, 9}} {
		s := newBench(t, counts...)
		from := make([]int, len(counts))
		one, _ := Again(s.Source, from, counts)
		two, _ := Again(s.Source, from, counts)
		spoil(one, api.Record{Key: 99, Val: 99})
		if want := slices.Concat(s.logs...); !sameRecords(two, want) {
			t.Errorf("two answers of Again(s, %v, %v) share memory", from, counts)
		}
		s.hold(t)
		s.grow(t, 0, 3)
		if want := slices.Concat(s.logs...); len(counts) == 1 && !sameRecords(two, want[:9]) {
			t.Errorf("an answer of Again is %v, behind more records", two)
		}
	}
}

func TestTriplesAreNewMemory(t *testing.T) {
	shared := roomy(ends(1, 2), 77)
	// One list, handed in at all three places.
	tr, code := Step(triple(3, shared, shared), shared)
	if code != api.OK {
		t.Fatal(code)
	}
	twin, _ := Step(triple(3, shared, shared), shared)
	prev, _ := At(tr, 3)
	cur, _ := At(tr, 4)
	curAgain, _ := At(tr, 4)
	spoil(shared, 99)
	if !sameTriple(tr, triple(4, ends(1, 2), ends(1, 2))) {
		t.Fatalf("the triple is %v behind a change of what was handed in", tr)
	}
	spoil(tr.Prev, 98)
	spoil(cur, 97)
	if !slices.Equal(tr.Cur, ends(1, 2)) || !slices.Equal(prev, ends(1, 2)) || !slices.Equal(curAgain, ends(1, 2)) || !sameTriple(twin, triple(4, ends(1, 2), ends(1, 2))) {
		t.Errorf("lists share memory: %v, %v, %v, %v", tr, prev, curAgain, twin)
	}
}
