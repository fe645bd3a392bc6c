package script

import (
	"math"
	"slices"
	"strings"
	"testing"

	"reprise/api"
)

// P21.2.

// noKinds: numbers that are no kind, what would be one if it were cut or lost its sign among them.
func noKinds() []int {
	return []int{0, 12, 13, -1, -3, -11, 99, 255, 256, 256 + 3, 1<<16 + 3, 1<<32 + 3, 1 << 62, math.MinInt, math.MinInt + 3, math.MaxInt - 1, math.MaxInt}
}

// field: one of a step's, with what it may be beside zero.
type field struct {
	name string
	puts []func(*api.Step)
}

func fields() []field {
	node, n, key, val := field{name: "Node"}, field{name: "N"}, field{name: "Key"}, field{name: "Val"}
	for _, x := range []int{1, -1, 3, 256, 1 << 32, 1 << 62, math.MinInt, math.MaxInt} {
		node.puts = append(node.puts, func(s *api.Step) { s.Node = x })
		n.puts = append(n.puts, func(s *api.Step) { s.N = x })
	}
	for _, x := range []uint64{1, 7, 256, 1 << 32, 1 << 63, lastKey} {
		key.puts = append(key.puts, func(s *api.Step) { s.Rec.Key = x })
	}
	for _, word := range rightFloats()[1:] {
		val.puts = append(val.puts, func(s *api.Step) { s.Rec.Val = twinFloat(word) })
	}
	return []field{node, n, key, val}
}

// given: which fields a kind's line gives.
func given(kind int) []string {
	switch kind {
	case 1:
		return []string{"Node", "Key", "Val"}
	case 2, 7:
		return []string{"Node", "N"}
	case 4, 5, 6:
		return []string{"N"}
	case 8, 9:
		return []string{"Node"}
	case 10:
		return []string{"Key"}
	}
	return nil
}

// TestEachFieldOfEachKind: it is written, or it has to be zero.
func TestEachFieldOfEachKind(t *testing.T) {
	for kind := 1; kind <= 11; kind++ {
		plain, e := Print(headPlan(), []api.Step{{Kind: kind}})
		if e != api.OK {
			t.Errorf("the kind %d alone is %d", kind, e)
		}
		for _, f := range fields() {
			for _, put := range f.puts {
				s := api.Step{Kind: kind}
				put(&s)
				if !slices.Contains(given(kind), f.name) {
					wantRefused(t, headPlan(), []api.Step{s}, api.ErrArg)
					wantRefused(t, headPlan(), []api.Step{{Kind: 3}, s, {Kind: 12}}, api.ErrArg)
					continue
				}
				text, e := Print(headPlan(), []api.Step{s})
				if e != api.OK || text == plain {
					t.Errorf("%v is printed as %q, %d", s, text, e)
				}
				wantParse(t, text, headPlan(), []api.Step{s}, 0, api.OK)
			}
		}
	}
}

// TestTwoFieldsThatArentGiven: they don't make up for each other.
func TestTwoFieldsThatArentGiven(t *testing.T) {
	wantRefused(t, headPlan(), []api.Step{{Kind: 3, Node: 1, N: -1}}, api.ErrArg)
	wantRefused(t, headPlan(), []api.Step{{Kind: 11, Node: -1, Rec: api.Record{Key: 1}}}, api.ErrArg)
	wantRefused(t, headPlan(), []api.Step{{Kind: 8, Node: 2, N: 1, Rec: api.Record{Key: lastKey, Val: -1}}}, api.ErrArg)
}

func TestKindsThatAreNone(t *testing.T) {
	for _, kind := range noKinds() {
		for _, s := range []api.Step{{Kind: kind}, {Kind: kind, N: 1}, {Kind: kind, Node: 1, Rec: api.Record{Key: 1, Val: 1}}} {
			wantRefused(t, headPlan(), []api.Step{s}, api.ErrStep)
			wantRefused(t, headPlan(), []api.Step{{Kind: 3}, s, {Kind: 3, N: 1}}, api.ErrStep)
		}
	}
}

// TestTheFirstStepAtFault: at every place, with another one behind it.
func TestTheFirstStepAtFault(t *testing.T) {
	arg, kind := api.Step{Kind: 3, N: 1}, api.Step{Kind: 12}
	for at := range 5 {
		steps := ticks(6)
		steps[at], steps[5] = arg, kind
		wantRefused(t, headPlan(), steps, api.ErrArg)
		steps[at], steps[5] = kind, arg
		wantRefused(t, headPlan(), steps, api.ErrStep)
	}
}

func TestPrintTellsStepsFirst(t *testing.T) {
	for _, count := range []int{mostSteps + 1, mostSteps + 2, 2 * mostSteps, 1 << 16, 1<<16 + 1} {
		steps := ticks(count)
		wantRefused(t, headPlan(), steps, api.ErrSteps)
		wantRefused(t, full(2*mostText), steps, api.ErrSteps)
		steps[0] = api.Step{Kind: 12}
		wantRefused(t, headPlan(), steps, api.ErrSteps)
		steps[0] = api.Step{Kind: 3, N: 1}
		wantRefused(t, full(2*mostText), steps, api.ErrSteps)
	}
}

func TestPrintTellsAStepAheadOfLong(t *testing.T) {
	for _, p := range []api.Plan{full(mostText), full(mostText + 1), full(2 * mostText)} {
		wantRefused(t, p, ticks(1), api.ErrLong)
		wantRefused(t, p, []api.Step{{Kind: 3}, {Kind: 12}}, api.ErrStep)
		wantRefused(t, p, []api.Step{{Kind: 3}, {Kind: 3, N: 1}}, api.ErrArg)
	}
	steps := brimming()
	steps[0].Rec.Key = lastKey
	wantRefused(t, headPlan(), steps, api.ErrLong)
	steps[mostSteps-1] = api.Step{Kind: -1}
	wantRefused(t, headPlan(), steps, api.ErrStep)
	steps[mostSteps-2] = api.Step{Kind: 11, Rec: api.Record{Val: math.Copysign(0, -1)}}
	wantRefused(t, headPlan(), steps, api.ErrArg)
}

func TestPrintAtMostSteps(t *testing.T) {
	wantPrint(t, headPlan(), ticks(mostSteps), head+strings.Repeat("tick\n", mostSteps))
	wantRefused(t, headPlan(), ticks(mostSteps+1), api.ErrSteps)
	// The pipeline's lines are no steps.
	ops := slices.Repeat([]api.Op{{Kind: 4}}, mostSteps)
	wantPrint(t, headPlan(ops...), ticks(mostSteps), head+strings.Repeat(opLine, mostSteps)+strings.Repeat("tick\n", mostSteps))
}

func TestPrintAtMostText(t *testing.T) {
	for _, size := range []int{mostText - 30, mostText - 1, mostText} {
		text, e := Print(full(size), nil)
		if len(text) != size || e != api.OK {
			t.Errorf("%d bytes, %d, not %d bytes", len(text), e, size)
		}
		wantParse(t, text, full(size), nil, 0, api.OK)
	}
	for _, size := range []int{mostText + 1, mostText + 2, mostText + 30, 2 * mostText, 1 << 25} {
		wantRefused(t, full(size), nil, api.ErrLong)
	}
	// The last byte is a step's, not the pipeline's.
	for _, size := range []int{mostText - 6, mostText - 5} {
		text, e := Print(full(size), ticks(1))
		if len(text) != size+5 || e != api.OK || !strings.HasSuffix(text, "\ntick\n") {
			t.Errorf("%d bytes, %d, not %d bytes", len(text), e, size+5)
		}
	}
	for _, size := range []int{mostText - 4, mostText - 1, mostText} {
		wantRefused(t, full(size), ticks(1), api.ErrLong)
	}
}

func TestPrintAtMostStepsAndMostText(t *testing.T) {
	steps := brimming()
	text, e := Print(headPlan(), steps)
	if len(steps) != mostSteps || len(text) != mostText || e != api.OK {
		t.Fatalf("%d steps, %d bytes, %d", len(steps), len(text), e)
	}
	wantParse(t, text, headPlan(), steps, 0, api.OK)
	for _, at := range []int{0, 1, mostSteps / 2, mostSteps - 1} {
		more := slices.Clone(steps)
		more[at].Rec.Key *= 10
		wantRefused(t, headPlan(), more, api.ErrLong)
		more[at].Rec.Key /= 100
		if text, e := Print(headPlan(), more); len(text) != mostText-1 || e != api.OK {
			t.Errorf("%d bytes, %d", len(text), e)
		}
	}
	wantRefused(t, headPlan(api.Op{}), steps, api.ErrLong)
	wantRefused(t, headPlan(), append(steps, api.Step{Kind: 3}), api.ErrSteps)
}

// TestPrintAsksForNoPlan: the numbers may be any, and so may the steps of the pipeline.
func TestPrintAsksForNoPlan(t *testing.T) {
	wantPrint(t, api.Plan{}, nil, "plan 0 0 0 0 0 0 0\n")
	wantPrint(t, api.Plan{Parts: -1, GiveUp: math.MinInt, Ops: []api.Op{{}, {Kind: -1, N: -1, X: math.Inf(-1)}}}, []api.Step{},
		"plan -1 0 0 0 0 0 -9223372036854775808\nop 0 0 0000000000000000\nop -1 -1 fff0000000000000\n")
}

// TestTheLimitsAreTheirNames: the tests write them as the chapter does.
func TestTheLimitsAreTheirNames(t *testing.T) {
	if api.MaxText != mostText || api.MaxSteps != mostSteps {
		t.Error(api.MaxText, api.MaxSteps)
	}
}
