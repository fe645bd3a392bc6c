package topo

import (
	"math"
	"slices"
	"testing"

	"reprise/api"
)

// P20.2: each kind, at each of its codes in the order in which they are found; the committed batch stands beside all of them.

// second: the topology of the examples when batch 1 is committed, and the attempt 2 of batch 2 assigned: the message 8 is on its way.
func second(t *testing.T) *pairing {
	t.Helper()
	x := upTo(t, 7)
	x.plays(t, deliver(7), api.OK, 0)
	x.plays(t, tick(), api.OK, 1)
	if list := x.Flights(); x.batch != 1 || len(list) != 1 || list[0].Number != 8 {
		t.Fatalf("batch %d is committed, on their way are %v", x.batch, list)
	}
	return x
}

// refuses: a step is refused, tells of the committed batch, and has changed nothing.
func refuses(t *testing.T, x *pairing, s api.Step, code api.Errno) {
	t.Helper()
	flights, tries, writes := x.Flights(), x.Tries(), x.Writes(0)
	want := api.Told{Code: code, Batch: x.batch}
	if a := x.play(t, s); a != want {
		t.Fatalf("Play(%v) is %v, not %v", s, a, want)
	}
	if !sameFlights(x.Flights(), flights) || !sameTries(x.Tries(), tries) || x.Writes(0) != writes {
		t.Fatalf("Play(%v) is refused, and has changed something", s)
	}
}

func TestStepProduce(t *testing.T) {
	x := second(t)
	for _, part := range numbers() {
		if part != 0 {
			refuses(t, x, produce(part, 7, 5), api.ErrPart)
		}
	}
	x.plays(t, produce(0, 7, math.NaN()), api.OK, 4)
	x.plays(t, turn(0, 0), api.OK, 0)
	x.plays(t, produce(0, math.MaxUint64, math.Copysign(0, -1)), api.OK, 5)
	if log := x.Log(0); len(log) != 5 || !math.IsNaN(log[3].Val) || log[4].Key != math.MaxUint64 || !math.Signbit(log[4].Val) {
		t.Errorf("Log(0) is %v", log)
	}
	y := begun(t, pairwise())
	y.plays(t, produce(1, 5, 1), api.OK, 1)
	y.plays(t, produce(0, 5, 1), api.OK, 1)
	y.plays(t, produce(1, 5, 1), api.OK, 2)
	refuses(t, y, produce(2, 5, 1), api.ErrPart)
}

func TestStepSwitch(t *testing.T) {
	x := second(t)
	for _, part := range numbers() {
		if part != 0 {
			refuses(t, x, turn(part, 0), api.ErrPart)
			refuses(t, x, turn(part, 1), api.ErrPart)
		}
	}
	// Off is 0 alone.
	for _, on := range []int{1, -1, 2, 256, 1 << 32, math.MinInt, math.MaxInt} {
		y := begun(t, pairwise())
		y.all(t, produce(0, 1, 1), produce(1, 1, 1))
		y.plays(t, turn(1, 0), api.OK, 0)
		y.plays(t, turn(0, 0), api.OK, 0)
		y.plays(t, turn(0, on), api.OK, 0)
		y.all(t, tick(), deliver(0))
		if f := last(t, y.Topo); f.Msg.Kind != api.MsgReady || !slices.Equal(f.Msg.Ends, []int{1, 0}) {
			t.Errorf("partition 0 is switched by %d, partition 1 off, and %v is sent", on, f)
		}
	}
}

func TestStepTick(t *testing.T) {
	x := second(t)
	// Window is 1, and the attempt is Reading.
	x.plays(t, tick(), api.OK, 0)
	x.plays(t, crash(0), api.OK, 0)
	refuses(t, x, tick(), api.ErrNot)
	x.plays(t, restart(0), api.OK, 0)
	x.plays(t, cut(0, 1), api.OK, 0)
	x.plays(t, tick(), api.OK, 1)
	if f := last(t, x.Topo); f.Msg.Kind != api.MsgAssign || f.Msg.Batch != 2 || f.Msg.Attempt != 3 || !slices.Equal(f.Msg.Ends, []int{2}) {
		t.Errorf("sent was %v", f)
	}
	// A tick that writes nothing finds no power gone; the one that gives the attempt up and begins another one does.
	for range 7 {
		x.plays(t, tick(), api.OK, 0)
	}
	flights := x.Flights()
	x.plays(t, tick(), api.ErrDown, 0)
	if x.Up(0) || !sameFlights(x.Flights(), flights) || len(x.Tries()) != 0 {
		t.Errorf("Up(0) is %t, Flights() %v, Tries() %v", x.Up(0), x.Flights(), x.Tries())
	}
	refuses(t, x, tick(), api.ErrNot)
}

func TestStepsOfMessagesThatArentThere(t *testing.T) {
	x := second(t)
	for _, kind := range []int{api.StepDeliver, api.StepDrop, api.StepCopy} {
		for _, k := range append(numbers(), 1<<32+8, -8) {
			if k != 8 {
				refuses(t, x, api.Step{Kind: kind, N: k}, api.ErrNone)
			}
		}
	}
	x.plays(t, double(8), api.OK, 9)
	x.plays(t, drop(8), api.OK, 0)
	for _, kind := range []int{api.StepDeliver, api.StepDrop, api.StepCopy} {
		refuses(t, x, api.Step{Kind: kind, N: 8}, api.ErrNone)
	}
	x.plays(t, double(9), api.OK, 10)
	x.plays(t, deliver(9), api.OK, 1)
	for _, kind := range []int{api.StepDeliver, api.StepDrop, api.StepCopy} {
		refuses(t, x, api.Step{Kind: kind, N: 9}, api.ErrNone)
	}
	if list := x.Flights(); len(list) != 2 || list[0].Number != 10 || list[0].Msg.Kind != api.MsgAssign || list[1].Number != 11 || list[1].Msg.Kind != api.MsgReady {
		t.Errorf("Flights() is %v", list)
	}
}

func TestStepCut(t *testing.T) {
	x := second(t)
	for _, n := range []int{0, 1, -1, math.MinInt, math.MaxInt} {
		for _, node := range numbers() {
			if node != 0 && node != 2 {
				refuses(t, x, cut(node, n), api.ErrNode)
			}
		}
	}
	// A worker that doesn't run is none that could be armed all the same.
	x.plays(t, crash(1), api.OK, 0)
	refuses(t, x, cut(1, -1), api.ErrNode)
	x.plays(t, restart(1), api.OK, 0)
	for _, node := range []int{0, 2} {
		refuses(t, x, cut(node, -1), api.ErrArg)
		refuses(t, x, cut(node, math.MinInt), api.ErrArg)
		x.plays(t, crash(node), api.OK, 0)
		refuses(t, x, cut(node, -1), api.ErrNot)
		refuses(t, x, cut(node, 0), api.ErrNot)
		x.plays(t, restart(node), api.OK, 0)
		x.plays(t, cut(node, math.MaxInt), api.OK, 0)
	}
	x.rounds(t, 20)
	if x.batch != 2 || !x.Up(0) || !x.Up(2) {
		t.Errorf("batch %d is committed; Up of 0 and 2 are %t, %t", x.batch, x.Up(0), x.Up(2))
	}
}

func TestWhatADiskIsArmedWith(t *testing.T) {
	// The last one that isn't refused holds.
	for _, c := range []struct {
		list []api.Step
		up   bool
	}{
		{[]api.Step{cut(0, 0)}, false},
		{[]api.Step{cut(0, 1)}, true},
		{[]api.Step{cut(0, 0), cut(0, -1)}, false},
		{[]api.Step{cut(0, 0), cut(0, 1)}, true},
		{[]api.Step{cut(0, 1), cut(0, 0)}, false},
		{[]api.Step{cut(2, 0)}, true},
		{[]api.Step{cut(0, 0), crash(0), restart(0)}, true},
		{[]api.Step{cut(0, 0), crash(0), cut(0, 0), restart(0)}, true},
		{[]api.Step{cut(0, 0), crash(2), restart(2)}, false},
		{[]api.Step{cut(0, 0), restart(0)}, false},
	} {
		x := three(t)
		x.all(t, c.list...)
		if a := x.play(t, tick()); (a.Code == api.OK) != c.up || x.Up(0) != c.up {
			t.Errorf("behind %v a tick is %v; Up(0) is %t", c.list, a, x.Up(0))
		}
	}
}

func TestStepsCrashAndRestart(t *testing.T) {
	x := second(t)
	for _, node := range numbers() {
		if node < 0 || node > 2 {
			refuses(t, x, crash(node), api.ErrNode)
			refuses(t, x, restart(node), api.ErrNode)
		}
	}
	for node := range 3 {
		refuses(t, x, restart(node), api.ErrRuns)
		x.plays(t, crash(node), api.OK, 0)
		refuses(t, x, crash(node), api.ErrNot)
		for other := range 3 {
			if x.Up(other) != (other != node) {
				t.Errorf("node %d has crashed, and Up(%d) is %t", node, other, x.Up(other))
			}
		}
		x.plays(t, restart(node), api.OK, 0)
		refuses(t, x, restart(node), api.ErrRuns)
	}
}

func TestStepQuery(t *testing.T) {
	x := second(t)
	for _, c := range []struct {
		key  uint64
		want api.Value
	}{{7, some(7)}, {9, api.Value{}}, {0, api.Value{}}, {math.MaxUint64, api.Value{}}, {1<<32 + 7, api.Value{}}} {
		if a := x.play(t, query(c.key)); a != (api.Told{Batch: 1, Val: c.want}) {
			t.Errorf("StepQuery of %d is %v", c.key, a)
		}
	}
	x.plays(t, crash(2), api.OK, 0)
	refuses(t, x, query(7), api.ErrNot)
	refuses(t, x, query(9), api.ErrNot)
}

func TestKindsThatAreNone(t *testing.T) {
	x := second(t)
	for _, kind := range []int{math.MinInt, -1 << 32, -256, -11, -1, 0, 12, 13, 256, 256 + 3, 1 << 32, 1<<32 + 3, math.MaxInt} {
		refuses(t, x, api.Step{Kind: kind}, api.ErrStep)
		refuses(t, x, api.Step{Kind: kind, Node: 2, N: 8, Rec: api.Record{Key: 7, Val: 5}}, api.ErrStep)
		refuses(t, x, api.Step{Kind: kind, Node: -1, N: -1}, api.ErrStep)
	}
}

// What the table doesn't name for a kind is not looked at.
func TestFieldsThatAreNotNamed(t *testing.T) {
	named := func(s api.Step) (node bool, n bool, rec bool) {
		switch s.Kind {
		case api.StepProduce:
			return true, false, true
		case api.StepSwitch, api.StepCut:
			return true, true, false
		case api.StepDeliver, api.StepDrop, api.StepCopy:
			return false, true, false
		case api.StepCrash, api.StepRestart:
			return true, false, false
		case api.StepQuery:
			return false, false, true
		}
		return false, false, false
	}
	for i, p := range plans() {
		x, s := begun(t, p), state(i)
		for range 300 {
			clean := s.someStep(x, i%3)
			dirty := clean
			node, n, rec := named(clean)
			if !node {
				dirty.Node = oneOf(&s, numbers())
			}
			if !n {
				dirty.N = oneOf(&s, numbers())
			}
			if !rec {
				dirty.Rec.Key = oneOf(&s, someKeys())
			}
			if clean.Kind != api.StepProduce {
				dirty.Rec.Val = oneOf(&s, someVals())
			}
			x.playAs(t, dirty, clean)
		}
	}
}

// Every step at every argument ends, and tells of the committed batch: P1.
func TestStepsAtAllArguments(t *testing.T) {
	x := second(t)
	x.all(t, produce(0, 1, 1))
	for _, node := range numbers() {
		for _, n := range numbers() {
			for kind := -1; kind <= 13; kind++ {
				x.play(t, api.Step{Kind: kind, Node: node, N: n, Rec: api.Record{Key: uint64(n), Val: math.Float64frombits(uint64(node))}})
			}
		}
	}
	for _, n := range numbers() {
		x.Log(n)
		x.Up(n)
		x.Held(n)
		x.Mark(n)
		x.Cells(n)
		x.Used(n)
		x.Reads(n)
		x.Writes(n)
		x.Query(uint64(n))
	}
	x.look(t, "all arguments")
}
