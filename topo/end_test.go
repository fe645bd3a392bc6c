package topo

import (
	"math"
	"slices"
	"testing"

	"reprise/api"
)

// P20.8

// revive: at most so many messages are on their way, all nodes go down and start again, all partitions are on.
func (x *pairing) revive(t *testing.T, most int) {
	t.Helper()
	for list := x.Flights(); len(list) > most; list = list[1:] {
		x.plays(t, drop(list[0].Number), api.OK, 0)
	}
	for node := range nodesOf(x.p) {
		if x.Up(node) {
			x.plays(t, crash(node), api.OK, 0)
		}
	}
	for node := range nodesOf(x.p) {
		x.plays(t, restart(node), api.OK, 0)
	}
	for part := range x.p.Parts {
		x.plays(t, turn(part, 1), api.OK, 0)
	}
}

// enough: how many rounds it takes at most till all is committed.
func (x *pairing) enough() int {
	n := 0
	for part, end := range x.ends {
		n = max(n, (len(x.Log(part))-end+x.p.Batch-1)/x.p.Batch)
	}
	return 20 + 10*n
}

// comesToAnEnd: all is committed behind as many rounds as the chapter gives.
func (x *pairing) comesToAnEnd(t *testing.T) {
	t.Helper()
	rounds := x.enough()
	x.rounds(t, rounds)
	for part, end := range x.ends {
		if end != len(x.Log(part)) {
			t.Fatalf("behind %d rounds the ends are %v, and partition %d has %d records", rounds, x.ends, part, len(x.Log(part)))
		}
	}
}

func TestItComesToAnEnd(t *testing.T) {
	for i, p := range plans() {
		for weather := range weathers() {
			x, s := begun(t, p), state(1000+100*i+weather)
			for range 3 {
				for range 120 {
					x.play(t, s.someStep(x, weather))
				}
				// As many messages as there may be.
				for list := x.Flights(); len(list) > 0 && len(list) < 64; list = x.Flights() {
					x.play(t, double(oneOf(&s, list).Number))
				}
				x.revive(t, 64)
				x.comesToAnEnd(t)
			}
		}
	}
}

func TestItComesToAnEndOfFullPartitions(t *testing.T) {
	for _, p := range []api.Plan{
		{Parts: 4, Stores: 4, Workers: 1, Agg: api.AggCount, Batch: 16, Window: 4, GiveUp: 8},
		{Parts: 2, Stores: 2, Workers: 2, Agg: api.AggSum, Batch: 5, Window: 1, GiveUp: 8},
	} {
		x := begun(t, p)
		x.quick = true
		for part := range p.Parts {
			for k := range 256 - part {
				x.plays(t, produce(part, uint64(k%64), 1), api.OK, k+1)
			}
		}
		x.revive(t, 64)
		x.comesToAnEnd(t)
		x.look(t, "the end")
		if len(x.Keys()) != 64 {
			t.Errorf("there are %d keys", len(x.Keys()))
		}
	}
}

func TestAPartitionThatIsOffIsNotWaitedFor(t *testing.T) {
	x := begun(t, pairwise())
	for k := range 10 {
		x.all(t, produce(k%2, uint64(k), 1))
	}
	x.all(t, turn(0, 0))
	x.rounds(t, 60)
	wantCommitted(t, x, 3, 0, 5)
	x.all(t, turn(0, -7))
	x.rounds(t, 60)
	wantCommitted(t, x, 6, 5, 5)
}

// P20.9

func TestWhatIsKeptIsSmall(t *testing.T) {
	p := api.Plan{Parts: 4, Stores: 1, Workers: 1, Agg: api.AggLeast, Batch: 16, Window: 2, GiveUp: 8}
	x, s := begun(t, p), state(3)
	x.quick = true
	wantSmall := func() {
		t.Helper()
		cells, e := x.Cells(2)
		if e == api.OK && (x.Used(2) > 7 || len(cells) > 64) {
			t.Fatalf("a store has %d blocks and %d cells", x.Used(2), len(cells))
		}
		x.wantAnswers(t, "a step")
	}
	for k := range 1024 {
		x.plays(t, produce(k%4, 1<<63+uint64(k*37%64), s.val()), api.OK, k/4+1)
	}
	for cycle := range 60 {
		// Most attempts fail at some message.
		for range 3 + s.below(9) {
			x.play(t, round())
		}
		if cycle%3 > 0 {
			x.all(t, cut(2, s.below(4)), round(), round(), restart(2))
		}
		wantSmall()
	}
	x.revive(t, 64)
	x.comesToAnEnd(t)
	wantSmall()
	x.look(t, "the end")
	if cells, _ := x.Cells(2); len(cells) != 64 {
		t.Errorf("there are %d cells", len(cells))
	}
}

func (s *state) val() float64 { return float64(s.below(2000)) - 1000 }

// P20.10

func TestAPartitionThatIsFull(t *testing.T) {
	p := pairwise()
	x := begun(t, p)
	x.quick = true
	for k := range 256 {
		x.plays(t, produce(1, uint64(k%64), 1), api.OK, k+1)
	}
	was := x.Log(1)
	x.look(t, "256 records")
	// A partition that is full is full for every record, also for one whose key would be one too many.
	for _, s := range []api.Step{produce(1, 3, 1), produce(1, 64, 1), produce(1, 3, math.NaN())} {
		x.plays(t, s, api.ErrFull, 0)
	}
	if !sameRecords(x.Log(1), was) || len(x.Log(0)) != 0 {
		t.Errorf("there are %d and %d records", len(x.Log(0)), len(x.Log(1)))
	}
	x.plays(t, produce(0, 3, 1), api.OK, 1)
	x.plays(t, produce(0, 64, 1), api.ErrKeys, 0)
	x.plays(t, produce(2, 64, 1), api.ErrPart, 0)
	x.plays(t, produce(-1, 64, 1), api.ErrPart, 0)
	// Off or on plays no part.
	x.plays(t, turn(1, 0), api.OK, 0)
	x.plays(t, produce(1, 3, 1), api.ErrFull, 0)
	x.plays(t, turn(1, 1), api.OK, 0)
	x.rounds(t, x.enough())
	wantCommitted(t, x, 128, 1, 256)
	wantQuery(t, x, 3, some(5), api.OK)
	wantQuery(t, x, 64, api.Value{}, api.OK)
	x.plays(t, produce(1, 3, 1), api.ErrFull, 0)
	x.look(t, "the end")
}

func TestAKeyTooMany(t *testing.T) {
	p := pairwise()
	p.Ops = []api.Op{{Kind: api.OpNeed}, {Kind: api.OpMore, X: -100}}
	x := begun(t, p)
	for k := range 64 {
		x.plays(t, produce(k%2, uint64(k), 1), api.OK, k/2+1)
	}
	known := x.Keys()
	if len(known) != 64 {
		t.Fatalf("Keys() is %v", known)
	}
	for _, key := range []uint64{64, 65, 1 << 63, math.MaxUint64} {
		x.plays(t, produce(0, key, 1), api.ErrKeys, 0)
		x.plays(t, produce(1, key, 0), api.ErrKeys, 0)
	}
	// A key that is known, and what the pipeline drops or traps, is taken.
	x.plays(t, produce(0, 63, 1), api.OK, 33)
	x.plays(t, produce(0, 64, -100), api.OK, 34)
	x.plays(t, produce(0, 64, math.Inf(1)), api.OK, 35)
	if !slices.Equal(x.Keys(), known) || len(x.Log(0)) != 35 || len(x.Log(1)) != 32 {
		t.Errorf("Keys() is %v; there are %d and %d records", x.Keys(), len(x.Log(0)), len(x.Log(1)))
	}
	x.rounds(t, x.enough())
	wantCommitted(t, x, 18, 35, 32)
	wantQuery(t, x, 63, some(2), api.OK)
	wantQuery(t, x, 62, some(1), api.OK)
	wantQuery(t, x, 64, api.Value{}, api.OK)
	x.plays(t, produce(0, 64, 1), api.ErrKeys, 0)
}

func TestKeysThatThePipelineGivesAreCounted(t *testing.T) {
	p := small()
	p.Ops = []api.Op{{Kind: api.OpRegroup, N: 65}}
	x := begun(t, p)
	for k := range 64 {
		x.plays(t, produce(0, uint64(k+650), 1), api.OK, k+1)
	}
	x.plays(t, produce(0, 64, 1), api.ErrKeys, 0)
	x.plays(t, produce(0, 65+64, 1), api.ErrKeys, 0)
	x.plays(t, produce(0, 65, 1), api.OK, 65)
}

// P20.11

// endsOf: ends as what a map can have as its key.
func endsOf(ends []int) (key [4]int) {
	copy(key[:], ends)
	return key
}

func TestWhatIsInNoAnswer(t *testing.T) {
	// What was told of all keys at which committed ends, in whatever topology.
	told := map[[4]int][]api.Value{}
	meetings := 0
	for i, sizes := range [][4]int{
		{1, 1, 1, 8}, {2, 1, 1, 8}, {3, 1, 2, 9}, {4, 4, 4, 64}, {1, 4, 2, 8}, {2, 3, 3, 20}, {3, 2, 4, 12}, {4, 1, 1, 8}, {1, 2, 4, 33},
	} {
		for weather := range 4 {
			p := api.Plan{
				Parts: 2, Stores: sizes[0], Workers: sizes[1], Window: sizes[2], GiveUp: sizes[3], Batch: 1,
				Agg: api.AggSum, Ops: []api.Op{{Kind: api.OpReal}, {Kind: api.OpScale, N: 1}},
			}
			x, s := begun(t, p), state(10*i+weather)
			for k := range 12 {
				x.all(t, produce(k%2, uint64(k*k%7), float64(k)-3.5))
			}
			for range 250 {
				step := round()
				if weather < 3 {
					step = s.someStep(x, weather)
				}
				if step.Kind == api.StepProduce {
					step = tick()
				}
				x.play(t, step)
				values, all := answers(x)
				if !all {
					continue
				}
				_, ends := x.Committed()
				if was, met := told[endsOf(ends)]; !met {
					told[endsOf(ends)] = values
				} else if !slices.Equal(was, values) {
					t.Fatalf("at the ends %v Query answers %v in one topology, %v in another", ends, was, values)
				} else if ends[0]+ends[1] > 0 {
					meetings++
				}
			}
		}
	}
	if len(told) < 12 || meetings < 1000 {
		t.Errorf("there were %d ends and %d meetings", len(told), meetings)
	}
}

// answers: what is told of the keys 0 to 7; false, if not all of their stores run.
func answers(x *pairing) ([]api.Value, bool) {
	values := []api.Value{}
	for key := range uint64(8) {
		v, e := x.Query(key)
		if e != api.OK {
			return nil, false
		}
		values = append(values, v)
	}
	return values, true
}
