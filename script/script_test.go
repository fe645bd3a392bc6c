package script

import (
	"math"
	"slices"
	"strings"
	"testing"

	"reprise/api"
)

// The examples.

func TestExampleLines(t *testing.T) {
	wantStep(t, "produce 0 7 4014000000000000", api.Step{Kind: api.StepProduce, Node: 0, Rec: api.Record{Key: 7, Val: 5}})
	for _, line := range []string{
		"produce 0 -7 4014000000000000", "produce 0 7 401400000000000", "produce 0 7 401400000000000G",
		"deliver 3 ", "deliver", "deliver 03", "deliver +3", "deliver -0", "deliver 9223372036854775808", "tick 1", "op 4 0",
	} {
		wantFault(t, head+line, 2, api.ErrLine)
	}
	wantStep(t, "deliver -3", api.Step{Kind: api.StepDeliver, N: -3})
	for _, line := range []string{"Tick", " tick", "plan 1 1 1 2 4 2 8"} {
		wantFault(t, head+line, 2, api.ErrWord)
	}
	wantParse(t, head+"op 4 0 0000000000000000", headPlan(api.Op{Kind: 4}), nil, 0, api.OK)
}

func TestExampleTexts(t *testing.T) {
	wantFault(t, "", 1, api.ErrWord)
	wantFault(t, "\n\n", 3, api.ErrWord)
	wantFault(t, "tick", 1, api.ErrWord)
	wantFault(t, head+"tick\nop 4 0 0000000000000000", 3, api.ErrWord)
}

func TestExamplePrint(t *testing.T) {
	wantRefused(t, headPlan(), []api.Step{{Kind: api.StepTick, N: 1}}, api.ErrArg)
	wantRefused(t, headPlan(), []api.Step{{Kind: 12}}, api.ErrStep)
	wantRefused(t, headPlan(), []api.Step{{Kind: api.StepQuery, Rec: api.Record{Val: math.Copysign(0, -1)}}}, api.ErrArg)
}

// P21.1 and P21.2: what each line gives, and how it is written.

func TestEachWord(t *testing.T) {
	nan := math.Float64frombits(0xfff0000000000009)
	wantStep(t, "produce 2 7 4014000000000000", api.Step{Kind: 1, Node: 2, Rec: api.Record{Key: 7, Val: 5}})
	wantStep(t, "produce -9223372036854775808 18446744073709551615 fff0000000000009", api.Step{Kind: 1, Node: math.MinInt, Rec: api.Record{Key: lastKey, Val: nan}})
	wantStep(t, "produce 9223372036854775807 0 8000000000000000", api.Step{Kind: 1, Node: math.MaxInt, Rec: api.Record{Val: math.Copysign(0, -1)}})
	wantStep(t, "switch 1 0", api.Step{Kind: 2, Node: 1})
	wantStep(t, "switch -5 4611686018427387904", api.Step{Kind: 2, Node: -5, N: 1 << 62})
	wantStep(t, "tick", api.Step{Kind: 3})
	wantStep(t, "deliver 3", api.Step{Kind: 4, N: 3})
	wantStep(t, "deliver 9223372036854775807", api.Step{Kind: 4, N: math.MaxInt})
	wantStep(t, "drop -1", api.Step{Kind: 5, N: -1})
	wantStep(t, "copy 12", api.Step{Kind: 6, N: 12})
	wantStep(t, "copy -9223372036854775808", api.Step{Kind: 6, N: math.MinInt})
	wantStep(t, "cut 2 1", api.Step{Kind: 7, Node: 2, N: 1})
	wantStep(t, "cut 0 -2", api.Step{Kind: 7, N: -2})
	wantStep(t, "crash 8", api.Step{Kind: 8, Node: 8})
	wantStep(t, "restart -8", api.Step{Kind: 9, Node: -8})
	wantStep(t, "query 0", api.Step{Kind: 10})
	wantStep(t, "query 18446744073709551615", api.Step{Kind: 10, Rec: api.Record{Key: lastKey}})
	wantStep(t, "round", api.Step{Kind: 11})
}

func TestThePlansLine(t *testing.T) {
	line := "plan 1 2 3 4 5 6 7\n"
	p := api.Plan{Parts: 1, Stores: 2, Workers: 3, Agg: 4, Batch: 5, Window: 6, GiveUp: 7}
	wantParse(t, line, p, nil, 0, api.OK)
	wantParse(t, strings.TrimSuffix(line, "\n"), p, nil, 0, api.OK)
	wantPrint(t, p, nil, line)
	line = "plan -9223372036854775808 9223372036854775807 0 -1 10 -10 4294967296\n"
	p = api.Plan{Parts: math.MinInt, Stores: math.MaxInt, Agg: -1, Batch: 10, Window: -10, GiveUp: 1 << 32}
	wantParse(t, line, p, nil, 0, api.OK)
	wantPrint(t, p, nil, line)
}

func TestThePipelinesLines(t *testing.T) {
	lines := "op 7 -2200 0000000000000000\nop 1 0 8000000000000000\nop -3 9223372036854775807 7ff0000000000001\nop 9223372036854775807 -9223372036854775808 bff8000000000000\n"
	p := headPlan(
		api.Op{Kind: 7, N: -2200}, api.Op{Kind: 1, X: math.Copysign(0, -1)},
		api.Op{Kind: -3, N: math.MaxInt64, X: math.Float64frombits(0x7ff0000000000001)}, api.Op{Kind: math.MaxInt, N: math.MinInt64, X: -1.5})
	wantParse(t, head+lines, p, nil, 0, api.OK)
	wantParse(t, head+lines+"tick\nround", p, []api.Step{{Kind: 3}, {Kind: 11}}, 0, api.OK)
	wantPrint(t, p, nil, head+lines)
	wantPrint(t, p, []api.Step{{Kind: 3}, {Kind: 11}}, head+lines+"tick\nround\n")
}

// TestParseTakesWhatIsNoPlan: whether it is one is asked elsewhere, and so is whether its Ops are a pipeline.
func TestParseTakesWhatIsNoPlan(t *testing.T) {
	wantParse(t, "plan 0 0 0 0 0 0 0", api.Plan{}, nil, 0, api.OK)
	wantParse(t, "plan 5 5 5 5 17 5 65\nop 13 0 0000000000000000\ncrash 99", api.Plan{Parts: 5, Stores: 5, Workers: 5, Agg: 5, Batch: 17, Window: 5, GiveUp: 65, Ops: []api.Op{{Kind: 13}}},
		[]api.Step{{Kind: 8, Node: 99}}, 0, api.OK)
	for _, count := range []int{8, 9, 100, mostSteps, mostSteps + 1, 10000} {
		p := headPlan(slices.Repeat([]api.Op{{Kind: 4}}, count)...)
		wantParse(t, head+strings.Repeat(opLine, count)+"tick", p, ticks(1), 0, api.OK)
		wantPrint(t, p, ticks(1), head+strings.Repeat(opLine, count)+"tick\n")
	}
}

func TestStepsInTheirOrder(t *testing.T) {
	var s state
	for _, count := range []int{0, 1, 2, 3, 100} {
		steps := s.steps(count)
		text, e := Print(headPlan(), steps)
		if e != api.OK || strings.Count(text, "\n") != 1+count {
			t.Errorf("%d steps: %q, %d", count, text, e)
		}
		wantParse(t, text, headPlan(), steps, 0, api.OK)
	}
}

// The limits.

func TestParseAtMostText(t *testing.T) {
	text, e := Print(full(mostText), nil)
	if len(text) != mostText || e != api.OK {
		t.Fatalf("%d bytes, %d", len(text), e)
	}
	wantParse(t, text, full(mostText), nil, 0, api.OK)
	for _, more := range []string{"\n", "#", "x", " ", "\xff"} {
		wantFault(t, text+more, 0, api.ErrLong)
	}
	for _, size := range []int{mostText - 1, mostText} {
		wantParse(t, head+"tick\n#"+strings.Repeat("x", size-len(head)-6), headPlan(), ticks(1), 0, api.OK)
		wantParse(t, strings.Repeat("\n", size-len(head))+head, headPlan(), nil, 0, api.OK)
		wantFault(t, strings.Repeat("\n", size), size+1, api.ErrWord)
		wantFault(t, strings.Repeat("#", size), 1, api.ErrWord)
		wantFault(t, strings.Repeat("x", size), 1, api.ErrWord)
		wantFault(t, head+strings.Repeat(" ", size-len(head)), 2, api.ErrWord)
		wantFault(t, head+"tick"+strings.Repeat(" ", size-len(head)-4), 2, api.ErrLine)
		wantFault(t, head+"query "+strings.Repeat("1", size-len(head)-6), 2, api.ErrLine)
	}
}

// TestLongIsToldFirst: ahead of every fault in a line, and with the line 0.
func TestLongIsToldFirst(t *testing.T) {
	for _, size := range []int{mostText + 1, mostText + 2, 2 * mostText, 1 << 24} {
		for _, text := range []string{"", "x", "plan", head + "tock\n", head + "tick 1\n", head + strings.Repeat("tick\n", mostSteps+1), head + "tick\n#"} {
			wantFault(t, text+strings.Repeat("\n", size-len(text)), 0, api.ErrLong)
			wantFault(t, text+strings.Repeat("x", size-len(text)), 0, api.ErrLong)
		}
	}
}

func TestParseAtMostSteps(t *testing.T) {
	text := head + opLine + strings.Repeat("tick\n", mostSteps)
	p := headPlan(api.Op{Kind: 4})
	wantParse(t, text, p, ticks(mostSteps), 0, api.OK)
	wantParse(t, strings.TrimSuffix(text, "\n"), p, ticks(mostSteps), 0, api.OK)
	wantParse(t, text+"\n\n# tick\n#\n\n", p, ticks(mostSteps), 0, api.OK)
	for _, line := range []string{"tick", "tick 1", "tick ", "round", "tock", "Tick", " tick", " ", "x", "op", "op 4 0 0000000000000000", "op 4", "plan", "plan 1 1 1 2 4 2 8", "\x00", "\r", "query -1"} {
		wantFault(t, text+line, 3+mostSteps, api.ErrSteps)
		wantFault(t, text+"\n#\n"+line+"\n", 5+mostSteps, api.ErrSteps)
		wantFault(t, text+line+"\ntock\n", 3+mostSteps, api.ErrSteps)
	}
	// The step MaxSteps is a line like any other.
	short := head + strings.Repeat("round\n", mostSteps-1)
	wantFault(t, short+"tock", 1+mostSteps, api.ErrWord)
	wantFault(t, short+"op 4 0 0000000000000000", 1+mostSteps, api.ErrWord)
	wantFault(t, short+"tick 1", 1+mostSteps, api.ErrLine)
	wantFault(t, short+"tick\ntock", 2+mostSteps, api.ErrSteps)
}

// A fault ahead of the step that is one too many is told, not that one.
func TestAFaultAheadOfTooManySteps(t *testing.T) {
	for _, at := range []int{0, 1, 100, mostSteps - 1} {
		lines := slices.Repeat([]string{"tick"}, mostSteps+1)
		lines[at] = "tock"
		wantFault(t, head+strings.Join(lines, "\n"), 2+at, api.ErrWord)
		lines[at] = "tick "
		wantFault(t, head+strings.Join(lines, "\n"), 2+at, api.ErrLine)
	}
}

// Lines.

func TestSkippedLinesAlone(t *testing.T) {
	for _, lines := range [][]string{
		{""}, {"#"}, {"#plan 1 1 1 2 4 2 8"}, {"", ""}, {"#", ""}, {"", "#"}, {"", "", "", "#", "# plan 1 1 1 2 4 2 8", ""}, slices.Repeat([]string{""}, 1000), slices.Repeat([]string{"#x"}, 1000),
	} {
		wantFault(t, strings.Join(lines, "\n"), len(lines), api.ErrWord)
	}
}

func TestSkippedLinesAtEveryPlace(t *testing.T) {
	lines := strings.Split(head+opLine+opLine+"tick\nquery 5\nround", "\n")
	p, steps := headPlan(api.Op{Kind: 4}, api.Op{Kind: 4}), []api.Step{{Kind: 3}, {Kind: 10, Rec: api.Record{Key: 5}}, {Kind: 11}}
	for _, skipped := range []string{"", "#", "# ", "##", "#tick", "# plan 1 1 1 2 4 2 8", "#\xff\x00\t", "#\r"} {
		for at := range len(lines) + 1 {
			more := slices.Insert(slices.Clone(lines), at, skipped)
			for _, end := range []string{"", "\n", "\n\n"} {
				wantParse(t, strings.Join(more, "\n")+end, p, steps, 0, api.OK)
			}
		}
		for at := range len(lines) {
			more := slices.Clone(lines)
			more[at] = "?"
			wantFault(t, strings.Join(more, "\n"), 1+at, api.ErrWord)
			for from := range at + 1 {
				wantFault(t, strings.Join(slices.Insert(slices.Clone(more), from, skipped, skipped), "\n"), 3+at, api.ErrWord)
			}
			wantFault(t, strings.Join(slices.Insert(slices.Clone(more), at+1, skipped), "\n"), 1+at, api.ErrWord)
		}
	}
}

// TestLinesThatLookSkipped: a line that isn't empty and doesn't begin with the sign isn't skipped.
func TestLinesThatLookSkipped(t *testing.T) {
	for _, line := range []string{" ", "  ", "\t", "\r", "\x00", " #", "\t#", "\xef\xbb\xbf#", "//", ";", "-", "\xff", "\v", "\f"} {
		wantFault(t, line, 1, api.ErrWord)
		wantFault(t, line+"\n"+head, 1, api.ErrWord)
		wantFault(t, head+line, 2, api.ErrWord)
		wantFault(t, head+opLine+line+"\ntick", 3, api.ErrWord)
		wantFault(t, head+"tick\n"+line, 3, api.ErrWord)
	}
	wantFault(t, head+"tick #", 2, api.ErrLine)
	wantFault(t, head+"tick#", 2, api.ErrWord)
}

// TestNothingElseEndsALine: not even the other bytes by which texts are cut elsewhere.
func TestNothingElseEndsALine(t *testing.T) {
	for _, end := range []string{"\r", "\r\n", "\v", "\f", "\x00", "\x1e", "\x85", "\xc2\x85", "\xe2\x80\xa8"} {
		wantFault(t, "plan 1 1 1 2 4 2 8"+end+"tick", 1, api.ErrLine)
		wantFault(t, head+"tick"+end+"tick", 2, api.ErrWord)
		wantFault(t, head+"deliver 3"+end+"tick", 2, api.ErrLine)
	}
}

// Words.

func TestWordsThatAreNone(t *testing.T) {
	list := []string{"", "t", "tic", "ticks", "tock", "ticktick", "deliverr", "o", "ops", "pla", "plans", "end", "step", "11", "3", "-", "=", "tick\t", "\ttick", "tick\r", "tick\x00", "tick\xff", "\xd1\x82ick", "ti\nck"}
	for _, s := range shapes() {
		list = append(list, strings.ToUpper(s.word), strings.ToUpper(s.word[:1])+s.word[1:], " "+s.word, s.word[1:], s.word+"s", s.word+"\r", s.word+"\t", s.word+s.word)
	}
	for _, word := range list {
		for _, s := range stepShapes() {
			line := shape{word, s.sorts}.line(s.right())
			if line == "" {
				continue
			}
			wantFault(t, head+line, 2, api.ErrWord)
			wantFault(t, line, 1, api.ErrWord)
			wantFault(t, head+opLine+"tick\n"+line+"\ntick", 4, api.ErrWord)
		}
	}
}

func TestThePlanIsMissing(t *testing.T) {
	for _, s := range shapes()[1:] {
		line := s.line(s.right())
		wantFault(t, line, 1, api.ErrWord)
		wantFault(t, line+"\n"+head, 1, api.ErrWord)
		wantFault(t, "\n#\n"+line+"\n"+head, 3, api.ErrWord)
	}
}

func TestThePlanTwice(t *testing.T) {
	for _, ahead := range []string{"", opLine, opLine + "\n", "tick\n", opLine + "tick\nround\n", "#\n"} {
		for _, line := range []string{head, "plan", "plan 1", "plan 1 2 3 4 5 6 7", "plan x"} {
			wantFault(t, head+ahead+line, 2+strings.Count(ahead, "\n"), api.ErrWord)
		}
	}
}

func TestAnOpBehindAStep(t *testing.T) {
	for _, s := range stepShapes() {
		line := s.line(s.right()) + "\n"
		for _, op := range []string{opLine, "op", "op 4", "op 4 0 0000000000000000 5", "op x y z"} {
			wantFault(t, head+line+op, 3, api.ErrWord)
			wantFault(t, head+opLine+line+op, 4, api.ErrWord)
			wantFault(t, head+opLine+line+line+"\n"+op, 6, api.ErrWord)
		}
	}
}

// Arguments.

// TestArgumentsMissing: each of them alone, all from each on, and their place taken by no bytes.
func TestArgumentsMissing(t *testing.T) {
	for _, s := range shapes() {
		for at := range s.sorts {
			for _, line := range []string{s.line(slices.Delete(s.right(), at, at+1)), s.line(s.right()[:at]), s.with(at, ""), s.line(s.right()[:at]) + " "} {
				text, number := s.text(line)
				wantFault(t, text, number, api.ErrLine)
				wantFault(t, text+"\n", number, api.ErrLine)
			}
		}
	}
}

func TestArgumentsTooMany(t *testing.T) {
	for _, s := range shapes() {
		for _, more := range []string{"0", "3", "-3", "4014000000000000", "x", "#", "# x", "", " ", "tick", "\t", "\r", "\x00"} {
			text, number := s.text(s.line(append(s.right(), more)))
			wantFault(t, text, number, api.ErrLine)
			wantFault(t, text+"\ntick", number, api.ErrLine)
		}
	}
}

func TestABlankTooManyAtEveryPlace(t *testing.T) {
	for _, s := range shapes() {
		line := s.line(s.right())
		for at := range len(line) + 1 {
			text, number := s.text(line[:at] + " " + line[at:])
			want := api.ErrLine
			if at < len(s.word) {
				want = api.ErrWord
			}
			wantFault(t, text, number, want)
			wantFault(t, text+"\n", number, want)
		}
	}
}

func TestOtherSignsBetween(t *testing.T) {
	for _, s := range shapes() {
		list := s.right()
		for at := range list {
			for _, sign := range breadths() {
				line := s.line(list[:at]) + sign + strings.Join(list[at:], " ")
				want := api.ErrLine
				if at == 0 {
					// The word goes as far as the first blank does.
					want = api.ErrWord
				}
				text, number := s.text(line)
				wantFault(t, text, number, want)
			}
		}
	}
}

func TestArgumentsThatAreRight(t *testing.T) {
	for _, s := range shapes() {
		for at, sort := range s.sorts {
			for _, word := range rights(sort) {
				text, _ := s.text(s.with(at, word))
				if e := wantTwin(t, text); e != api.OK {
					t.Errorf("%q: %d", text, e)
				}
			}
		}
	}
}

func TestArgumentsThatAreWrong(t *testing.T) {
	for _, s := range shapes() {
		for at, sort := range s.sorts {
			for _, word := range wrongs(sort) {
				text, number := s.text(s.with(at, word))
				wantFault(t, text, number, api.ErrLine)
				wantFault(t, text+"\n", number, api.ErrLine)
			}
		}
	}
}

// TestEveryByteInAnArgument: in the place of each sign of it, and behind it.
func TestEveryByteInAnArgument(t *testing.T) {
	for _, s := range []shape{{"query", "k"}, {"crash", "n"}, {"produce", "nkf"}} {
		line := s.line(s.right())
		for at := len(s.word); at <= len(line); at++ {
			for sign := range 256 {
				text, _ := s.text(line[:at] + string([]byte{byte(sign)}) + line[min(at+1, len(line)):])
				wantTwin(t, text)
			}
		}
	}
}

// TestFloatsBitByBit: each is read and written bit by bit.
func TestFloatsBitByBit(t *testing.T) {
	for _, word := range rightFloats() {
		bits := math.Float64bits(twinFloat(word))
		p, steps, _, e := Parse(head + "op 1 0 " + word + "\nproduce 0 0 " + word)
		if e != api.OK || math.Float64bits(p.Ops[0].X) != bits || math.Float64bits(steps[0].Rec.Val) != bits {
			t.Errorf("%s: %v, %v, %d", word, p, steps, e)
		}
		wantPrint(t, headPlan(api.Op{Kind: 1, X: math.Float64frombits(bits)}), []api.Step{{Kind: 1, Rec: api.Record{Val: math.Float64frombits(bits)}}}, head+"op 1 0 "+word+"\nproduce 0 0 "+word+"\n")
	}
}

// Which of two faults is told.

func TestTheFirstLineAtFault(t *testing.T) {
	faults := []struct {
		line string
		e    api.Errno
	}{{"tock", api.ErrWord}, {"tick 1", api.ErrLine}, {"plan 1 1 1 2 4 2 8", api.ErrWord}, {"op 4 0", api.ErrWord}, {"query -1", api.ErrLine}, {" ", api.ErrWord}}
	for _, a := range faults {
		for _, b := range faults {
			wantFault(t, head+opLine+"tick\n"+a.line+"\n"+b.line, 4, a.e)
			wantFault(t, head+opLine+"tick\n\n#\n"+a.line+"\ntick\n\n"+b.line+"\n", 6, a.e)
			wantFault(t, "plan\n"+a.line+"\n"+b.line, 1, api.ErrLine)
			wantFault(t, "plot\n"+a.line+"\n"+b.line, 1, api.ErrWord)
		}
	}
}

// TestAWordAtFaultIsToldAheadOfItsArguments: a line with both faults.
func TestAWordAtFaultIsToldAheadOfItsArguments(t *testing.T) {
	for _, rest := range []string{" ", " x", " 1 1 1 2 4 2", " 1 1 1 2 4 2 8 ", "  ", " 03"} {
		wantFault(t, "Plan"+rest, 1, api.ErrWord)
		wantFault(t, head+"tock"+rest, 2, api.ErrWord)
		wantFault(t, head+"plan"+rest, 2, api.ErrWord)
		wantFault(t, head+"tick\nop"+rest, 3, api.ErrWord)
		wantFault(t, head+"op"+rest, 2, api.ErrLine)
		wantFault(t, "plan"+rest, 1, api.ErrLine)
	}
}

// TestNoneBesideAFault: neither the plan nor a step that was read ahead of it (wantFault holds every answer to that too).
func TestNoneBesideAFault(t *testing.T) {
	for _, text := range []string{head + opLine + "produce 1 2 4014000000000000\ntick\nround 1", head + opLine + "tick\ntock", head + opLine + "op", head + strings.Repeat("cut 2 3\n", mostSteps+1)} {
		p, steps, line, e := Parse(text)
		if e == api.OK || line == 0 || len(steps) != 0 || len(p.Ops) != 0 || !samePlan(p, api.Plan{}) {
			t.Errorf("Parse(%q) is %v, %d steps, %d, %d", brief(text), p, len(steps), line, e)
		}
	}
}
