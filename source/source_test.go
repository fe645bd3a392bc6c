package source

import (
	"math"
	"slices"
	"testing"

	"reprise/api"
)

// lessAndRest is the pipeline of the examples.
func lessAndRest() []api.Op {
	return []api.Op{{Kind: api.OpLess, X: 5}, {Kind: api.OpRegroup, N: 3}}
}

// The three examples.

func TestExampleProduce(t *testing.T) {
	s := wantNew(t, 2, lessAndRest())
	wantProduce(t, s, 0, rec(7, 1), api.OK)
	wantProduce(t, s, 0, rec(9, 8), api.OK)
	wantProduce(t, s, 1, rec(4, 2), api.OK)
	wantProduce(t, s, 2, rec(4, 2), api.ErrPart)
	wantProduce(t, s, -1, rec(4, 2), api.ErrPart)
	wantLen(t, s, 0, 2)
	wantKeys(t, s, []uint64{1})
}

func TestExampleRead(t *testing.T) {
	s := wantNew(t, 2, lessAndRest())
	wantProduce(t, s, 0, rec(7, 1), api.OK)
	wantProduce(t, s, 0, rec(9, 8), api.OK)
	wantRead(t, s, 0, 1, 9, []api.Record{rec(9, 8)})
	wantRead(t, s, 0, 2, 5, nil)
	wantNoRead(t, s, 0, 3, 1, api.ErrArg)
	wantNoRead(t, s, 0, 0, -1, api.ErrArg)
	wantSwitch(t, s, 0, false, api.OK)
	wantUp(t, s, 0, false)
	wantNoRead(t, s, 0, 0, 1, api.ErrGone)
	wantLog(t, s, 0, []api.Record{rec(7, 1), rec(9, 8)})
	wantProduce(t, s, 0, rec(1, 1), api.OK)
}

func TestExampleNew(t *testing.T) {
	wantNoNew(t, 0, lessAndRest(), api.ErrArg)
	wantNoNew(t, 5, lessAndRest(), api.ErrArg)
	wantNoNew(t, 1, slices.Repeat([]api.Op{{Kind: api.OpAbs}}, 9), api.ErrOps)
}

// P6.1

func TestNewOfEachNumber(t *testing.T) {
	for _, list := range pipelines() {
		for parts := 1; parts <= 4; parts++ {
			newPairing(t, parts, list).hold(t)
		}
	}
}

func TestNewOfNoNumber(t *testing.T) {
	for _, parts := range noCounts() {
		for _, list := range slices.Concat(pipelines(), noPipelines()) {
			wantNoNew(t, parts, list, api.ErrArg)
		}
	}
}

func TestNewOfNoPipeline(t *testing.T) {
	for parts := 1; parts <= 4; parts++ {
		for _, list := range noPipelines() {
			wantNoNew(t, parts, list, api.ErrOps)
		}
	}
}

// The nil source.

func TestNilSource(t *testing.T) {
	var none *Source
	numbers := []int{-1, 0, 1, 3, 4, math.MinInt, math.MaxInt}
	for _, p := range numbers {
		wantProduce(t, none, p, rec(1, 1), api.ErrNil)
		wantProduce(t, none, p, rec(last, math.NaN()), api.ErrNil)
		wantSwitch(t, none, p, true, api.ErrNil)
		wantSwitch(t, none, p, false, api.ErrNil)
		wantUp(t, none, p, false)
		wantLen(t, none, p, 0)
		wantLog(t, none, p, nil)
		for _, from := range numbers {
			for _, most := range numbers {
				wantNoRead(t, none, p, from, most, api.ErrNil)
			}
		}
	}
	wantKeys(t, none, nil)
	if n := none.Parts(); n != 0 {
		t.Errorf("Parts() of a nil source is %d", n)
	}
}

// P6.2

func TestProduceAtEachPartition(t *testing.T) {
	for parts := 1; parts <= 4; parts++ {
		b := newPairing(t, parts, nil)
		for p := range parts {
			for i := range p + 2 {
				b.put(t, p, rec(uint64(10*p+i), float64(i)), api.OK)
			}
			b.hold(t)
		}
		for _, p := range noParts(parts) {
			b.put(t, p, rec(77, 7), api.ErrPart)
			b.put(t, p, rec(0, 0), api.ErrPart)
		}
		b.hold(t)
	}
}

func TestProduceKeepsTheOrder(t *testing.T) {
	s := wantNew(t, 1, nil)
	var want []api.Record
	for _, key := range []uint64{5, 5, last, 0, 3, 5, 1 << 63, 3} {
		r := rec(key, float64(len(want)))
		wantProduce(t, s, 0, r, api.OK)
		want = append(want, r)
		wantLog(t, s, 0, want)
	}
	wantKeys(t, s, []uint64{0, 3, 5, 1 << 63, last})
}

// fill brings a partition to so many records, of a few keys.
func (b pairing) fill(t *testing.T, p int, count int) {
	t.Helper()
	for i := range count {
		b.put(t, p, rec(uint64(i%7), float64(i)), api.OK)
	}
}

func TestProduceUntilAPartitionIsFull(t *testing.T) {
	for full := range 3 {
		b := newPairing(t, 3, nil)
		b.fill(t, full, 255)
		b.hold(t)
		b.put(t, full, rec(3, -1), api.OK)
		b.hold(t)
		for range 2 {
			b.put(t, full, rec(3, -2), api.ErrFull)
			b.put(t, full, rec(99, -2), api.ErrFull)
			b.hold(t)
		}
		// The others are empty, and have room.
		for p := range 3 {
			if p != full {
				b.put(t, p, rec(99, 1), api.OK)
			}
		}
		b.hold(t)
	}
}

func TestProduceUntilAllPartitionsAreFull(t *testing.T) {
	b := newPairing(t, 4, nil)
	for p := range 4 {
		b.fill(t, p, 256)
		b.put(t, p, rec(1, 1), api.ErrFull)
	}
	b.put(t, 4, rec(1, 1), api.ErrPart)
	b.put(t, -1, rec(1, 1), api.ErrPart)
	b.hold(t)
}

func TestProduceOfDroppedAndTrappedRecordsFills(t *testing.T) {
	list := []api.Op{{Kind: api.OpReal}, {Kind: api.OpNeed}}
	b := newPairing(t, 2, list)
	for i := range 256 {
		x := math.NaN()
		if i%2 == 1 {
			x = minusInf
		}
		b.put(t, 0, rec(uint64(i), x), api.OK)
	}
	for _, x := range []float64{math.NaN(), plusInf, 1} {
		b.put(t, 0, rec(1000, x), api.ErrFull)
	}
	b.hold(t)
	wantKeys(t, b.Source, nil)
}

// keyed: a source of two partitions and so many keys, spread over both, in no order.
func keyed(t *testing.T, list []api.Op, count int) pairing {
	t.Helper()
	b := newPairing(t, 2, list)
	for i := range count {
		b.put(t, i%2, rec(uint64(i*37%count), 2), api.OK)
	}
	return b
}

func TestProduceUntilThereAreAllKeys(t *testing.T) {
	// Kept is what is finite and below 5; 5, more and NaNs are dropped, -infinity is trapped.
	list := []api.Op{{Kind: api.OpLess, X: 5}, {Kind: api.OpNeed}}
	for at := range 2 {
		b := keyed(t, list, 63)
		b.hold(t)
		b.put(t, at, rec(last, 1), api.OK)
		b.hold(t)
		for range 2 {
			b.put(t, at, rec(1000, 1), api.ErrKeys)
			b.put(t, at, rec(63, minusNought), api.ErrKeys)
			b.hold(t)
		}
		b.put(t, at, rec(62, 1), api.OK)
		b.put(t, at, rec(last, 4), api.OK)
		b.put(t, at, rec(1000, 5), api.OK)
		b.put(t, at, rec(1000, math.NaN()), api.OK)
		b.put(t, at, rec(1001, minusInf), api.OK)
		b.hold(t)
		b.put(t, at, rec(1000, 1), api.ErrKeys)
		b.put(t, at, rec(1001, 1), api.ErrKeys)
		b.put(t, 2, rec(1001, 1), api.ErrPart)
		b.hold(t)
	}
}

func TestProduceAtAFullPartitionWithAllKeys(t *testing.T) {
	list := []api.Op{{Kind: api.OpLess, X: 5}, {Kind: api.OpNeed}}
	b := keyed(t, list, 64)
	for b.Len(0) < 256 {
		b.put(t, 0, rec(9, 1), api.OK)
	}
	for p, want := range map[int]api.Errno{0: api.ErrFull, 1: api.ErrKeys, 2: api.ErrPart, -1: api.ErrPart} {
		b.put(t, p, rec(1000, 1), want)
	}
	for _, r := range []api.Record{rec(9, 1), rec(1000, 7), rec(1000, minusInf)} {
		b.put(t, 0, r, api.ErrFull)
	}
	b.hold(t)
	for _, r := range []api.Record{rec(9, 1), rec(1000, 7), rec(1000, minusInf)} {
		b.put(t, 1, r, api.OK)
	}
	b.hold(t)
}

func TestProduceGoesByTheKeyBehindThePipeline(t *testing.T) {
	// The step leaves 64 keys of 256: none is ever too many.
	b := newPairing(t, 1, []api.Op{{Kind: api.OpRegroup, N: 64}})
	for i := range 256 {
		b.put(t, 0, rec(uint64(i)*1001, 1), api.OK)
	}
	b.hold(t)
	// Keys that a record brings may be known while the one that the step gives isn't, and the other way round.
	b = newPairing(t, 2, []api.Op{{Kind: api.OpSide}})
	for i := range 63 {
		b.put(t, 0, rec(uint64(i), 1), api.OK)
	}
	b.put(t, 0, rec(0, -1), api.OK)
	b.put(t, 0, rec(0, 0), api.ErrKeys)
	b.put(t, 0, rec(0, minusNought), api.ErrKeys)
	b.put(t, 0, rec(0, math.NaN()), api.ErrKeys)
	b.put(t, 0, rec(63, 1), api.ErrKeys)
	b.put(t, 1, rec(1<<62, -9), api.OK)
	b.put(t, 1, rec(1<<63+62, plusInf), api.OK)
	b.hold(t)
}

func TestProduceKeepsValuesAsTheyAre(t *testing.T) {
	values := []float64{
		0, minusNought, plusInf, minusInf, float(1), float(1<<63 + 1), math.MaxFloat64, -math.MaxFloat64, float(api.QuietNaN),
		float(0xfff8000000000001), float(0x7fffffffffffffff), float(0xffffffffffffffff), float(0x7ff8000000000000), float(0x7ff8dead0000beef), float(0x7ff0000000000001), float(0xfff0000000000001),
	}
	for _, list := range pipelines() {
		s := wantNew(t, 1, list)
		var want []api.Record
		for i, x := range values {
			r := rec(uint64(i), x)
			wantProduce(t, s, 0, r, api.OK)
			want = append(want, r)
		}
		wantLog(t, s, 0, want)
		wantRead(t, s, 0, 0, len(want), want)
		wantRead(t, s, 0, 9, 2, want[9:11])
	}
}

// P6.3

func TestSwitchOffAndOn(t *testing.T) {
	for parts := 1; parts <= 4; parts++ {
		b := newPairing(t, parts, nil)
		for p := range parts {
			b.put(t, p, rec(uint64(p), 1), api.OK)
			// Twice the same way is as once.
			for i, on := range []bool{true, false, false, true, true, false} {
				b.turn(t, p, on)
				b.hold(t)
				b.put(t, p, rec(uint64(p), float64(i)), api.OK)
				b.hold(t)
			}
		}
		for p := range parts {
			b.turn(t, p, true)
			b.hold(t)
		}
	}
}

func TestSwitchOfNoPartition(t *testing.T) {
	for parts := 1; parts <= 4; parts++ {
		b := newPairing(t, parts, nil)
		b.turn(t, parts-1, false)
		for _, p := range noParts(parts) {
			for _, on := range []bool{true, false} {
				wantSwitch(t, b.Source, p, on, api.ErrPart)
			}
		}
		b.hold(t)
	}
}

func TestAPartitionThatIsOffGrows(t *testing.T) {
	b := newPairing(t, 2, []api.Op{{Kind: api.OpReal}})
	b.turn(t, 0, false)
	for i := range 64 {
		b.put(t, 0, rec(uint64(i), 1), api.OK)
	}
	b.put(t, 0, rec(64, 1), api.ErrKeys)
	b.put(t, 0, rec(64, math.NaN()), api.OK)
	for b.Len(0) < 256 {
		b.put(t, 0, rec(5, 1), api.OK)
	}
	b.put(t, 0, rec(5, 1), api.ErrFull)
	b.hold(t)
	b.turn(t, 0, true)
	b.hold(t)
}

// P6.4

func TestReadFromEachPlace(t *testing.T) {
	edges := []int{math.MinInt, math.MinInt + 1, -257, -1, 0, 1, 2, 3, 4, 5, 6, 255, 256, 257, math.MaxInt - 1, math.MaxInt}
	for _, count := range []int{0, 1, 5, 256} {
		b := newPairing(t, 2, nil)
		b.fill(t, 1, count)
		for _, on := range []bool{true, false, true} {
			b.turn(t, 1, on)
			for _, from := range append(edges, count-1, count, count+1) {
				for _, most := range append(edges, count-1, count, count+1) {
					want, code := b.read(1, from, most)
					if code == api.OK {
						wantRead(t, b.Source, 1, from, most, want)
					} else {
						wantNoRead(t, b.Source, 1, from, most, code)
					}
				}
			}
		}
		b.hold(t)
	}
}

func TestReadTellsTheFirstError(t *testing.T) {
	s := wantNew(t, 2, nil)
	wantProduce(t, s, 0, rec(1, 1), api.OK)
	wantProduce(t, s, 1, rec(1, 1), api.OK)
	wantSwitch(t, s, 1, false, api.OK)
	for _, p := range noParts(2) {
		wantNoRead(t, s, p, 0, 0, api.ErrPart)
		wantNoRead(t, s, p, -1, -1, api.ErrPart)
		wantNoRead(t, s, p, 2, 1, api.ErrPart)
	}
	for p := range 2 {
		wantNoRead(t, s, p, -1, 1, api.ErrArg)
		wantNoRead(t, s, p, 2, 1, api.ErrArg)
		wantNoRead(t, s, p, 0, -1, api.ErrArg)
		wantNoRead(t, s, p, 1, math.MinInt, api.ErrArg)
	}
	for from := range 2 {
		for most := range 2 {
			wantNoRead(t, s, 1, from, most, api.ErrGone)
		}
	}
	wantRead(t, s, 0, 0, 1, []api.Record{rec(1, 1)})
	wantRead(t, s, 0, 0, 0, nil)
	wantRead(t, s, 0, 1, math.MaxInt, nil)
}

func TestLogOfEachPartition(t *testing.T) {
	s := wantNew(t, 3, []api.Op{{Kind: api.OpLess, X: minusInf}})
	wantProduce(t, s, 0, rec(1, 1), api.OK)
	wantProduce(t, s, 2, rec(2, 2), api.OK)
	wantProduce(t, s, 2, rec(1, 3), api.OK)
	for _, on := range []bool{true, false, true} {
		for p := range 3 {
			wantSwitch(t, s, p, on, api.OK)
		}
		wantLog(t, s, 0, []api.Record{rec(1, 1)})
		wantLog(t, s, 1, nil)
		wantLog(t, s, 2, []api.Record{rec(2, 2), rec(1, 3)})
		for _, p := range noParts(3) {
			wantLog(t, s, p, nil)
		}
	}
}

// P6.5

func TestKeysOfRecordsThatAreNotKept(t *testing.T) {
	s := wantNew(t, 1, lessAndRest())
	wantKeys(t, s, nil)
	for key := range uint64(100) {
		wantProduce(t, s, 0, rec(key, 5), api.OK)
		wantProduce(t, s, 0, rec(key, math.NaN()), api.OK)
	}
	wantKeys(t, s, nil)
	s = wantNew(t, 1, []api.Op{{Kind: api.OpRegroup, N: 2}, {Kind: api.OpNeed}})
	wantProduce(t, s, 0, rec(1, plusInf), api.OK)
	wantKeys(t, s, nil)
	wantProduce(t, s, 0, rec(4, 1), api.OK)
	wantKeys(t, s, []uint64{0})
}

func TestKeysRiseAndStandOnce(t *testing.T) {
	keys := []uint64{1 << 63, last, 0, 7, 1<<63 - 1, 1 << 32, 1<<32 - 1, 3, last - 1, 1<<63 + 1}
	s := wantNew(t, 4, nil)
	for round := range 3 {
		for i, key := range keys {
			wantProduce(t, s, (i+round)%4, rec(key, float64(i)), api.OK)
		}
		// In whatever order a map is gone through, the answer is the same one.
		for range 20 {
			wantKeys(t, s, []uint64{0, 3, 7, 1<<32 - 1, 1 << 32, 1<<63 - 1, 1 << 63, 1<<63 + 1, last - 1, last})
		}
	}
}

func TestKeysOfAllPipelines(t *testing.T) {
	values := []float64{3, -2.9, minusNought, 0, plusInf, math.NaN(), 1e18, minusInf, -0.5, 11}
	for _, list := range pipelines() {
		b := newPairing(t, 2, list)
		for i := range 40 {
			b.put(t, i%2, rec(uint64(i*i%23), values[i*7%len(values)]), api.OK)
			wantKeys(t, b.Source, b.allKeys())
		}
	}
}

// P6.6

func TestTwoSourcesBesideOneAnother(t *testing.T) {
	list := lessAndRest()
	a, b, c := newPairing(t, 2, list), newPairing(t, 2, list), newPairing(t, 3, nil)
	holdAll := func() {
		t.Helper()
		a.hold(t)
		b.hold(t)
		c.hold(t)
	}
	a.put(t, 0, rec(1, 1), api.OK)
	holdAll()
	b.put(t, 0, rec(2, 2), api.OK)
	b.turn(t, 0, false)
	holdAll()
	a.turn(t, 1, false)
	c.put(t, 0, rec(9, 9), api.OK)
	holdAll()
	a.fill(t, 0, 255)
	a.put(t, 0, rec(1, 1), api.ErrFull)
	b.put(t, 0, rec(1, 1), api.OK)
	holdAll()
	for key := range uint64(63) {
		c.put(t, 1, rec(key+100, 1), api.OK)
	}
	c.put(t, 2, rec(0, 1), api.ErrKeys)
	b.put(t, 1, rec(0, 1), api.OK)
	holdAll()
}

func TestListOfStepsStaysAndIsNotKept(t *testing.T) {
	for _, plain := range slices.Concat(pipelines(), noPipelines()) {
		for _, parts := range []int{1, 4, 0, 5} {
			list := roomy(plain, api.Op{Kind: 77, N: 77, X: 77})
			was := slices.Clone(list[:cap(list)])
			s, e := New(parts, list)
			if e == api.OK {
				s.Produce(0, rec(8, 1))
				s.Keys()
			}
			if !slices.EqualFunc(list[:cap(list)], was, sameOp) {
				t.Fatalf("New(%d, %v) has changed what was handed in", parts, plain)
			}
		}
	}
}

func TestListOfStepsMayChangeBehindTheCall(t *testing.T) {
	list := roomy(lessAndRest(), api.Op{})
	s := wantNew(t, 1, list)
	spoil(list, api.Op{Kind: 77})
	wantProduce(t, s, 0, rec(7, 1), api.OK)
	wantProduce(t, s, 0, rec(8, 9), api.OK)
	wantKeys(t, s, []uint64{1})
	spoil(list, api.Op{Kind: api.OpNeg})
	wantProduce(t, s, 0, rec(8, 1), api.OK)
	wantProduce(t, s, 0, rec(9, 9), api.OK)
	wantKeys(t, s, []uint64{1, 2})
}

func TestAnswersAreNewMemory(t *testing.T) {
	junk := rec(0xdead, 0xbeef)
	b := newPairing(t, 2, nil)
	for i := range 20 {
		b.put(t, 0, rec(uint64(i), 1), api.OK)
		// All answers are at hand ahead of the first change.
		log, logAgain, keys, keysAgain := b.Log(0), b.Log(0), b.Keys(), b.Keys()
		whole, _ := b.Read(0, 0, 99)
		some, _ := b.Read(0, i/2, i/4)
		none, _ := b.Read(0, i+1, 3)
		wantSome := slices.Clone(some)
		for _, list := range [][]api.Record{log, whole, none, b.Log(1), b.Log(2)} {
			spoil(list, junk)
		}
		spoil(keys, 99)
		if !sameRecords(logAgain, b.logs[0]) || !sameRecords(some, wantSome) || !slices.Equal(keysAgain, b.allKeys()) {
			t.Fatal("two answers share memory")
		}
		spoil(logAgain, junk)
		spoil(some, junk)
		spoil(keysAgain, 99)
		b.hold(t)
	}
}

// TestAnswersStay: what comes behind a call doesn't change its answer.
func TestAnswersStay(t *testing.T) {
	b := newPairing(t, 1, nil)
	b.fill(t, 0, 3)
	log, keys := b.Log(0), b.Keys()
	read, _ := b.Read(0, 0, 2)
	b.fill(t, 0, 200)
	b.put(t, 0, rec(77, 7), api.OK)
	if !sameRecords(log, b.logs[0][:3]) || !sameRecords(read, b.logs[0][:2]) || !slices.Equal(keys, []uint64{0, 1, 2}) {
		t.Errorf("the answers are %v, %v and %v now", log, read, keys)
	}
}

// All promises at once: a long row of calls, each held against the model.

func TestRowsOfCalls(t *testing.T) {
	values := []float64{3, -2.9, minusNought, 0, plusInf, math.NaN(), 1e18, minusInf, -0.5, 11}
	for _, list := range pipelines() {
		for parts := 1; parts <= 4; parts++ {
			b := newPairing(t, parts, list)
			state := uint64(parts)
			next := func(below int) int {
				state = state*6364136223846793005 + 1442695040888963407
				return int(state >> 33 % uint64(below))
			}
			for i := range 700 {
				p := next(parts+2) - 1
				r := rec(uint64(next(90)), values[next(len(values))])
				wantProduce(t, b.Source, p, r, b.produce(p, r))
				if next(10) == 0 {
					b.turn(t, next(parts+2)-1, next(2) == 0)
				}
				if i%100 == 0 {
					b.hold(t)
				}
			}
			b.hold(t)
		}
	}
}
