package run

import (
	"fmt"
	"math"
	"slices"
	"strings"
	"testing"

	"reprise/api"
)

// P22.2, over many scripts: the transcript is held line by line to a topology that is played beside it.

// weathers: how often which kind of step comes, by the kinds; at 0 steps that make no sense.
func weathers() [][]int {
	return [][]int{
		{1, 12, 1, 8, 60, 1, 6, 1, 1, 6, 3, 6},
		{1, 12, 3, 10, 60, 2, 10, 2, 1, 12, 3, 2},
		{2, 9, 5, 9, 60, 3, 12, 4, 2, 18, 4, 1},
	}
}

func someKeys() []uint64 {
	return []uint64{0, 1, 2, 3, 4, 5, 6, 7, 8, 63, 1<<62 + 5, 1 << 63, lastKey}
}

func someVals() []float64 {
	return []float64{
		0, math.Copysign(0, -1), 1, -1, 0.5, 2.9, -7.25, 12, 3, 1e300, -1e300, 5e-324, -5e-324, 9.3e18,
		math.Inf(1), math.Inf(-1), math.NaN(), math.Float64frombits(0xfff0000000000001),
	}
}

func someNumbers() []int {
	return []int{math.MinInt, -1 << 32, -256, -2, -1, 0, 1, 2, 3, 4, 5, 9, 10, 256, 1 << 32, 1<<32 + 1, math.MaxInt}
}

// kind: one of the kinds of steps, by their weights.
func (s *state) kind(weights []int) int {
	sum := 0
	for _, w := range weights {
		sum += w
	}
	at := s.below(sum)
	for kind, w := range weights {
		if at < w {
			return kind
		}
		at -= w
	}
	return 0
}

// someFlight: the number of a message on its way, seldom of none; mostly one of the last, so that others come late.
func (s *state) someFlight(x *beside) int {
	list := x.Flights()
	if len(list) == 0 || s.below(40) == 0 {
		return s.below(50) - 5
	}
	if s.below(6) > 0 {
		list = list[max(0, len(list)-1-s.below(4)):]
	}
	return oneOf(s, list).Number
}

// someNode: a node that runs or one that doesn't, if there is one.
func (s *state) someNode(x *beside, runs bool) int {
	count := 1 + x.p.Workers + x.p.Stores
	node := s.below(count)
	for range count {
		if x.Up(node) == runs {
			break
		}
		node = (node + 1) % count
	}
	return node
}

// senseless: a step of any kind with any numbers.
func (s *state) senseless() api.Step {
	n, m := oneOf(s, someNumbers()), oneOf(s, someNumbers())
	switch kind := 1 + s.below(11); kind {
	case api.StepProduce:
		return produce(n, oneOf(s, someKeys()), oneOf(s, someVals()))
	case api.StepSwitch, api.StepCut:
		return api.Step{Kind: kind, Node: n, N: m}
	case api.StepCrash, api.StepRestart:
		return api.Step{Kind: kind, Node: n}
	case api.StepDeliver, api.StepDrop, api.StepCopy:
		return api.Step{Kind: kind, N: n}
	default:
		return query(oneOf(s, someKeys()))
	}
}

// someStep: one that may come in this weather.
func (s *state) someStep(x *beside, weather int) api.Step {
	kind := s.kind(weathers()[weather])
	if len(x.Flights()) > 60 {
		kind = api.StepDeliver
	}
	switch kind {
	case 0:
		return s.senseless()
	case api.StepProduce:
		return produce(s.below(x.p.Parts), oneOf(s, someKeys()), oneOf(s, someVals()))
	case api.StepSwitch:
		return turn(s.below(x.p.Parts), oneOf(s, []int{0, 1, 1, -1, math.MaxInt, math.MinInt}))
	case api.StepDeliver, api.StepDrop, api.StepCopy:
		if len(x.Flights()) == 0 && s.below(20) > 0 {
			return tick()
		}
		return api.Step{Kind: kind, N: s.someFlight(x)}
	case api.StepCut:
		return cut(s.someNode(x, true), s.below(6)-1)
	case api.StepCrash:
		return crash(s.someNode(x, true))
	case api.StepRestart:
		node := s.someNode(x, false)
		if x.Up(node) && s.below(10) > 0 {
			return double(s.someFlight(x))
		}
		return restart(node)
	case api.StepQuery:
		return query(oneOf(s, someKeys()))
	}
	return api.Step{Kind: kind}
}

// script: a topology in which so many steps were played.
func (s *state) script(t *testing.T, p api.Plan, weather int, count int) *beside {
	t.Helper()
	x := begun(t, p)
	for range count {
		x.play(s.someStep(x, weather))
	}
	return x
}

// somePlan: any, of all sizes.
func (s *state) somePlan() api.Plan {
	return api.Plan{
		Parts: 1 + s.below(4), Stores: 1 + s.below(4), Workers: 1 + s.below(4), Agg: 1 + s.below(4),
		Batch: 1 + s.below(16), Window: 1 + s.below(4), GiveUp: 8 + s.below(57), Ops: oneOf(s, plans()).Ops,
	}
}

func TestLongScripts(t *testing.T) {
	codes, commits, told := map[api.Errno]int{}, 0, map[string]int{}
	for i, p := range plans() {
		for weather := range weathers() {
			s := state(100*i + weather)
			x := begun(t, p)
			for range 12 {
				for range 125 {
					x.play(s.someStep(x, weather))
				}
				x.wantBeside(t)
				for _, line := range x.ending(t)[1:] {
					told[sortOf(strings.Fields(line)[1])]++
				}
			}
			batch, _ := x.Committed()
			commits += batch
			for code, count := range x.codes {
				codes[code] += count
			}
		}
	}
	// What these scripts are worth: they have met all codes but those of limits, and all that is told of a key.
	for _, code := range []api.Errno{api.OK, api.ErrPart, api.ErrNone, api.ErrNot, api.ErrDown, api.ErrNode, api.ErrArg, api.ErrRuns} {
		if codes[code] < 5 {
			t.Errorf("the code %d was met %d times", code, codes[code])
		}
	}
	for _, sort := range []string{"?", "-", "digits", "below 0", "float"} {
		if told[sort] < 10 {
			t.Errorf("of the sort %q %d values were told", sort, told[sort])
		}
	}
	if commits < 300 {
		t.Errorf("%d batches were committed", commits)
	}
}

// sortOf: what a value's text is like.
func sortOf(text string) string {
	switch {
	case len(text) == 16 && !strings.HasPrefix(text, "-"):
		return "float"
	case len(text) > 1 && text[0] == '-':
		return "below 0"
	case text == "?" || text == "-":
		return text
	}
	return "digits"
}

func TestScriptsInPlansOfAllSizes(t *testing.T) {
	s := state(77)
	for range 300 {
		x := s.script(t, s.somePlan(), s.below(3), s.below(200))
		x.wantBeside(t)
		// All start again, and all is committed.
		for node := range 1 + x.p.Workers + x.p.Stores {
			x.play(crash(node), restart(node))
		}
		for part := range x.p.Parts {
			x.play(turn(part, 1))
		}
		x.play(rounds(60)...)
		x.wantBeside(t)
	}
}

// TestScriptsOfMostSteps: just so many steps are played.
func TestScriptsOfMostSteps(t *testing.T) {
	for weather := range weathers() {
		s := state(900 + weather)
		x := s.script(t, plans()[1+weather], weather, mostSteps)
		x.wantBeside(t)
		wantFault(t, x.text()+"tick", 1+len(x.p.Ops)+mostSteps+1, api.ErrSteps)
	}
}

// P22.3.

// wantPrefix: the lines of the first count steps are the same in both transcripts.
func wantPrefix(t *testing.T, a string, b string, count int) {
	t.Helper()
	one, two := strings.SplitAfter(a, "\n"), strings.SplitAfter(b, "\n")
	if len(one) < count || len(two) < count || !slices.Equal(one[:count], two[:count]) {
		t.Fatalf("the first %d lines are %q and %q", count, brief(a), brief(b))
	}
}

func TestScriptsThatBeginAlike(t *testing.T) {
	for i, p := range plans() {
		for weather := range weathers() {
			s := state(300*i + weather)
			x := s.script(t, p, weather, 120)
			whole, _, e := Run(x.text())
			if e != api.OK {
				t.Fatal(e)
			}
			for count := range len(x.lines) + 1 {
				first := planText(p) + strings.Join(x.lines[:count], "")
				short, _, e := Run(first)
				if e != api.OK {
					t.Fatal(e)
				}
				wantPrefix(t, whole, short, count)
				if strings.Count(short, "\n") <= count || strings.Split(short, "\n")[count][:2] != "= " {
					t.Fatalf("behind %d steps line %d is none of what is committed", count, count+1)
				}
				for _, behind := range []string{"round\n", "crash 0\ntick\nround", "produce 0 77 4014000000000000\nquery 77\n", "tick\n" + strings.Repeat("deliver 0\n", 9), strings.Join(x.lines, "")} {
					other, _, e := Run(first + behind)
					if e != api.OK {
						t.Fatal(e)
					}
					wantPrefix(t, whole, other, count)
				}
			}
		}
	}
}

func TestSkippedLines(t *testing.T) {
	s := state(500)
	for i, p := range plans() {
		for range 12 {
			x := s.script(t, p, i%3, 100)
			want, text := x.transcript(t), x.text()
			for range 6 {
				wantRun(t, s.skipping(text), want)
			}
			for _, line := range skips() {
				every := strings.ReplaceAll(text, "\n", "\n"+line+"\n")
				wantRun(t, every, want)
				wantRun(t, line+"\n"+every+line, want)
			}
		}
	}
}

// TestSkippedLinesAtEachPlace: one line, ahead of each line of a script and behind the last one.
func TestSkippedLinesAtEachPlace(t *testing.T) {
	text := strings.Replace(chapterScript, "\n", "\nop 5 0 0000000000000000\nop 6 0 0000000000000000\n", 1)
	wantRun(t, text, chapterTranscript)
	lines := strings.SplitAfter(text, "\n")
	for at := range lines {
		for _, line := range skips() {
			wantRun(t, strings.Join(slices.Insert(slices.Clone(lines), at, line+"\n"), ""), chapterTranscript)
		}
	}
}

// TestSkippedLinesUpToMostText: a script grows by them up to just MaxText bytes, and has the same transcript; one byte more is too long.
func TestSkippedLinesUpToMostText(t *testing.T) {
	s := state(600)
	for i, p := range plans() {
		x := s.script(t, p, i%3, 50)
		want, text := x.transcript(t), x.text()
		lines := strings.SplitAfter(text, "\n")
		for _, left := range []int{mostText - len(text) - 1, mostText - len(text)} {
			for _, at := range []int{0, 1, 1 + len(p.Ops), 2 + len(p.Ops), len(lines) - 1} {
				for _, more := range []string{
					strings.Repeat("\n", left), "#" + strings.Repeat("x", left-2) + "\n", "#" + strings.Repeat(" tick", (left-2)/5) + strings.Repeat("\n", left-1-(left-2)/5*5),
					strings.Repeat("\n", left%2) + strings.Repeat("#\n", left/2),
				} {
					long := strings.Join(slices.Insert(slices.Clone(lines), at, more), "")
					if len(long) != len(text)+left {
						t.Fatalf("there are %d bytes", len(long))
					}
					wantRun(t, long, want)
					if len(long) == mostText {
						wantFault(t, "\n"+long, 0, api.ErrLong)
						wantFault(t, long+"#", 0, api.ErrLong)
					}
				}
			}
		}
	}
}

// TestSkippedLinesAndFaults: the number of a fault's line is greater by as many as were put in ahead of it, and nothing else changes.
func TestSkippedLinesAndFaults(t *testing.T) {
	for _, c := range []struct {
		lines []string
		at    int // the line that is told
		e     api.Errno
	}{
		{[]string{"tick"}, 1, api.ErrWord},
		{[]string{"plan 1 1 1 2 2 1"}, 1, api.ErrLine},
		{[]string{"plan 1 1 1 2 2 1 8", "tock"}, 2, api.ErrWord},
		{[]string{"plan 1 1 1 2 2 1 8", "op 4 0 0000000000000000", "tick", "round", "tick 1", "round"}, 5, api.ErrLine},
		{[]string{"plan 1 1 1 2 2 1 8", "tick", "op 4 0 0000000000000000"}, 3, api.ErrWord},
		{[]string{"plan 1 1 1 2 2 1 7", "tick", "op 4 0"}, 3, api.ErrWord},
		{[]string{"plan 1 1 1 2 2 1 7", "tick", "round"}, 1, api.ErrPlan},
		{[]string{"plan 1 1 1 0 2 1 8", "op 13 0 0000000000000000", "round"}, 1, api.ErrPlan},
		{[]string{"plan 1 1 1 2 2 1 8", "op 4 0 0000000000000000", "op 7 2201 0000000000000000", "round"}, 1, api.ErrOps},
	} {
		s := state(700)
		for range 300 {
			list, at := []string{}, 0
			for i, line := range c.lines {
				for s.below(3) == 0 {
					list = append(list, oneOf(&s, skips()))
				}
				list = append(list, line)
				if i+1 == c.at {
					at = len(list)
				}
			}
			wantFault(t, strings.Join(list, "\n"), at, c.e)
			wantFault(t, strings.Join(list, "\n")+"\n#\n\n", at, c.e)
		}
	}
}

// Every call ends and none panics, at all texts; and hangs on its text alone.

// bent: a script with some of its bytes taken out, put in or changed.
func (s *state) bent(text string) string {
	b := []byte(text)
	for range 1 + s.below(3) {
		at := s.below(len(b) + 1)
		sign := oneOf(s, []byte("  \n\n#-+0123456789abcdefgopktx\t\r\xff\xa0AF"))
		switch s.below(3) {
		case 0:
			b = slices.Insert(b, at, sign)
		case 1:
			b = slices.Delete(b, min(at, len(b)), min(at+1, len(b)))
		case 2:
			if at < len(b) {
				b[at] = sign
			}
		}
	}
	return string(b)
}

func TestBentScripts(t *testing.T) {
	s, met := state(800), map[api.Errno]int{}
	for range 1500 {
		text := s.script(t, s.somePlan(), s.below(3), s.below(12)).text()
		for range 4 {
			met[wantTwin(t, s.skipping(s.bent(text)))]++
		}
	}
	for _, e := range []api.Errno{api.OK, api.ErrWord, api.ErrLine, api.ErrPlan, api.ErrOps} {
		if met[e] < 5 {
			t.Errorf("the error %d was met %d times", e, met[e])
		}
	}
}

func TestTextsOfAnyBytes(t *testing.T) {
	s := state(801)
	for range 5000 {
		b := []byte(oneOf(&s, []string{"", head, head + "op 4 0 0000000000000000\n", "plan", "plan 1 1 1 2 2 1 "}))
		for range s.below(40) {
			b = append(b, byte(s.below(256)))
		}
		wantTwin(t, string(b))
	}
}

func TestPlansOfAnyNumbers(t *testing.T) {
	s := state(802)
	for range 5000 {
		number := func(most int) int {
			if s.below(12) == 0 {
				return oneOf(&s, someNumbers())
			}
			return 1 + s.below(most)
		}
		p := api.Plan{Parts: number(4), Stores: number(4), Workers: number(4), Agg: number(4), Batch: number(16), Window: number(4), GiveUp: 7 + number(57)}
		for range s.below(4) {
			p.Ops = append(p.Ops, api.Op{Kind: number(12), N: int64(number(9)), X: oneOf(&s, someVals())})
		}
		wantTwin(t, s.skipping(planText(p)+"produce 0 7 4014000000000000\nround\nround\n"))
	}
}

// TestRunKeepsNothing: a transcript doesn't hang on what was run ahead of it, nor does a fault.
func TestRunKeepsNothing(t *testing.T) {
	for _, ahead := range []string{
		"", head, chapterScript, chapterScript + "tock", "plan 4 4 4 1 16 4 64\nproduce 3 9 7ff8000000000001\nround\ncrash 0\n", "\n\n#\nplan 0 1 1 2 2 1 8", head + "op 13 0 0000000000000000",
		strings.Repeat("#", mostText+1), head + strings.Repeat("tick\n", mostSteps+1),
	} {
		Run(ahead)
		wantRun(t, chapterScript, chapterTranscript)
		Run(ahead)
		wantFault(t, "#\nplan 0 1 1 2 2 1 8", 2, api.ErrPlan)
		Run(ahead)
		wantRun(t, head, "= 0 0\n")
		Run(ahead)
		wantFault(t, fmt.Sprintf("%stick\ntock", head), 3, api.ErrWord)
	}
}
