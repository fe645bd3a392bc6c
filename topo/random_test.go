package topo

import (
	"math"
	"slices"
	"testing"

	"reprise/api"
)

// P20.5 and P20.6, behind long rows of steps; P20.2, P20.3 and P20.4 too, since all that is told is held to the twin.

// weathers: how often which kind of step comes, by the kinds; at 0 steps that make no sense.
func weathers() [][]int {
	return [][]int{
		{1, 12, 1, 8, 60, 1, 6, 1, 1, 6, 1, 6},
		{1, 12, 3, 10, 60, 2, 10, 2, 1, 12, 1, 2},
		{2, 9, 5, 9, 60, 3, 12, 4, 2, 18, 2, 1},
	}
}

func someKeys() []uint64 {
	return []uint64{0, 1, 2, 3, 4, 5, 6, 7, 8, 63, 1<<62 + 5, 1 << 63, math.MaxUint64}
}

func someVals() []float64 {
	return []float64{
		0, math.Copysign(0, -1), 1, -1, 0.5, 2.9, -7.25, 12, 3, 1e300, -1e300, 5e-324, -5e-324, 9.3e18,
		math.Inf(1), math.Inf(-1), math.NaN(), math.Float64frombits(0xfff0000000000001),
	}
}

// kind: one of the kinds of steps, by their weights.
func (s *state) kind(weights []int) int {
	sum := 0
	for _, w := range weights {
		sum += w
	}
	at := s.below(sum)
	for kind, w := range weights {
		if at < w {
			return kind
		}
		at -= w
	}
	return 0
}

// someFlight: the number of a message on its way, seldom of none; mostly one of the last, so that others come late.
func (s *state) someFlight(x *pairing) int {
	list := x.Flights()
	if len(list) == 0 || s.below(40) == 0 {
		return s.below(50) - 5
	}
	if s.below(6) > 0 {
		list = list[max(0, len(list)-1-s.below(4)):]
	}
	return oneOf(s, list).Number
}

// someDown: a node that doesn't run, if there is one.
func (s *state) someDown(x *pairing) int {
	node := s.below(nodesOf(x.p))
	for range nodesOf(x.p) {
		if !x.Up(node) {
			break
		}
		node = (node + 1) % nodesOf(x.p)
	}
	return node
}

// someStep: one that may come in this weather.
func (s *state) someStep(x *pairing, weather int) api.Step {
	kind := s.kind(weathers()[weather])
	if len(x.Flights()) > 60 {
		kind = api.StepDeliver
	}
	switch kind {
	case api.StepProduce:
		return produce(s.below(x.p.Parts), oneOf(s, someKeys()), oneOf(s, someVals()))
	case api.StepSwitch:
		return turn(s.below(x.p.Parts), oneOf(s, []int{0, 1, 1, -1, math.MaxInt, math.MinInt}))
	case api.StepDeliver, api.StepDrop, api.StepCopy:
		if len(x.Flights()) == 0 && s.below(20) > 0 {
			return tick()
		}
		return api.Step{Kind: kind, N: s.someFlight(x)}
	case api.StepCut:
		return cut(s.below(nodesOf(x.p)), s.below(6)-1)
	case api.StepCrash:
		return crash(s.below(nodesOf(x.p)))
	case api.StepRestart:
		node := s.someDown(x)
		if x.Up(node) && s.below(10) > 0 {
			return double(s.someFlight(x))
		}
		return restart(node)
	case api.StepQuery:
		return query(oneOf(s, someKeys()))
	case 0:
		return api.Step{Kind: s.below(16) - 2, Node: oneOf(s, numbers()), N: oneOf(s, numbers()), Rec: api.Record{Key: oneOf(s, someKeys())}}
	}
	return api.Step{Kind: kind}
}

func TestLongRowsOfSteps(t *testing.T) {
	codes, fenced, commits := map[api.Errno]int{}, 0, 0
	for i, p := range plans() {
		for weather := range weathers() {
			x, s := begun(t, p), state(100*i+weather)
			for range 1500 {
				x.play(t, s.someStep(x, weather))
			}
			commits += x.batch
			fenced += x.fenced
			for code, count := range x.codes {
				codes[code] += count
			}
		}
	}
	// What these rows are worth: they have met all that a step can answer but for limits.
	for _, code := range []api.Errno{
		api.OK, api.ErrPart, api.ErrNone, api.ErrNot, api.ErrDown, api.ErrNode, api.ErrArg, api.ErrRuns, api.ErrStep,
	} {
		if codes[code] < 5 {
			t.Errorf("the code %d was met %d times", code, codes[code])
		}
	}
	if commits < 300 || fenced < 50 {
		t.Errorf("%d batches were committed, %d came late", commits, fenced)
	}
}

func TestLongRowsOfStepsInPlansOfAllSizes(t *testing.T) {
	s := state(77)
	for range 60 {
		p := api.Plan{
			Parts: 1 + s.below(4), Stores: 1 + s.below(4), Workers: 1 + s.below(4), Agg: 1 + s.below(4),
			Batch: 1 + s.below(16), Window: 1 + s.below(4), GiveUp: 8 + s.below(57), Ops: oneOf(&s, plans()).Ops,
		}
		x, weather := begun(t, p), s.below(3)
		for range 150 {
			x.play(t, s.someStep(x, weather))
		}
		x.revive(t, 64)
		x.comesToAnEnd(t)
	}
}

// The same script makes the same answers.
func TestAScriptPlayedTwice(t *testing.T) {
	for i, p := range plans() {
		x, s := begun(t, p), state(i)
		script, told := []api.Step{}, []api.Told{}
		for range 400 {
			step := s.someStep(x, 1+i%2)
			script, told = append(script, step), append(told, x.play(t, step))
		}
		y := wantNew(t, p, api.OK)
		for k, step := range script {
			if a := y.Play(step); a != told[k] {
				t.Fatalf("step %d, %v, is %v, not %v", k, step, a, told[k])
			}
		}
		if !sameFlights(x.Flights(), y.Flights()) || !slices.Equal(x.Keys(), y.Keys()) {
			t.Errorf("Flights() and Keys() are %v, %v, not %v, %v", y.Flights(), y.Keys(), x.Flights(), x.Keys())
		}
	}
}

// Every message of an attempt is doubled and kept, and comes once more behind all that followed, to stores whose mark is
// of a later one: P20.6.
func TestMessagesThatComeLate(t *testing.T) {
	for i, p := range plans() {
		x := begun(t, p)
		for k := range 30 {
			x.all(t, produce(k%p.Parts, uint64(k*5), float64(k+1)))
		}
		late := []int{}
		for attempt := range 3 {
			// What is sent comes twice at once, and a third time at the end; the coordinator isn't told that it is done.
			for x.all(t, tick()); len(x.Flights()) > len(late); {
				for _, f := range x.Flights() {
					if slices.Contains(late, f.Number) {
						continue
					}
					if attempt < 2 && f.Msg.Kind == api.MsgDone {
						x.plays(t, drop(f.Number), api.OK, 0)
						continue
					}
					late = append(late, x.play(t, double(f.Number)).Number)
					again := x.play(t, double(f.Number)).Number
					x.all(t, deliver(f.Number), deliver(again))
				}
			}
			for range p.GiveUp - 1 {
				x.all(t, tick())
			}
		}
		slices.Reverse(late)
		for _, k := range late {
			x.play(t, deliver(k))
		}
		if x.fenced == 0 {
			t.Errorf("plan %d: nobody came late", i)
		}
		x.revive(t, 64)
		x.comesToAnEnd(t)
	}
}
