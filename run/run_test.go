package run

import (
	"fmt"
	"math"
	"slices"
	"strings"
	"testing"

	"reprise/api"
)

// P22.1: Parse's errors and their lines.

func TestFaultsOfATextWithoutAPlan(t *testing.T) {
	wantFault(t, "", 1, api.ErrWord)
	wantFault(t, "\n", 2, api.ErrWord)
	wantFault(t, "\n\n", 3, api.ErrWord)
	wantFault(t, "#", 1, api.ErrWord)
	wantFault(t, "#\n# plan 1 1 1 2 2 1 8", 2, api.ErrWord)
	wantFault(t, strings.Repeat("\n", mostText), mostText+1, api.ErrWord)
	wantFault(t, strings.Repeat("#", mostText), 1, api.ErrWord)
	for _, l := range ledgers() {
		for _, line := range []string{"tick", "op 4 0 0000000000000000", "Plan 1 1 1 2 2 1 8", " plan 1 1 1 2 2 1 8", "plan1 1 1 2 2 1 8", "\xff", "plan\t1 1 1 2 2 1 8"} {
			wantFault(t, l.text+line, l.count+1, api.ErrWord)
			wantFault(t, l.text+line+"\n"+head, l.count+1, api.ErrWord)
		}
		for _, line := range []string{"plan", "plan ", "plan 1 1 1 2 2 1", "plan 1 1 1 2 2 1 8 ", "plan 1 1 1 2 2 1 8 8", "plan 1 1 1 2 2 1 08", "plan 1 1 1 2 2 1 9223372036854775808", "plan 1 1 1 2 2 1 8\r"} {
			wantFault(t, l.text+line, l.count+1, api.ErrLine)
			wantFault(t, l.text+line+"\ntock\n", l.count+1, api.ErrLine)
		}
	}
}

func TestFaultsBehindThePlansLine(t *testing.T) {
	for _, l := range ledgers() {
		for _, m := range ledgers() {
			if l.count+m.count > 10000 {
				continue
			}
			for _, c := range []struct {
				line string
				e    api.Errno
			}{
				{"tock", api.ErrWord}, {" tick", api.ErrWord}, {"plan 1 1 1 2 2 1 8", api.ErrWord}, {"=", api.ErrWord}, {"tick 1", api.ErrLine}, {"deliver 03", api.ErrLine},
				{"query -7", api.ErrLine}, {"produce 0 7 5", api.ErrLine}, {"round ", api.ErrLine},
			} {
				wantFault(t, l.text+head+m.text+c.line, l.count+m.count+2, c.e)
				wantFault(t, l.text+head+"tick\n"+m.text+c.line+"\ntock", l.count+m.count+3, c.e)
			}
			wantFault(t, l.text+head+m.text+"op 4 0", l.count+m.count+2, api.ErrLine)
			wantFault(t, l.text+head+"tick\n"+m.text+"op 4 0 0000000000000000", l.count+m.count+3, api.ErrWord)
		}
	}
}

func TestTooLong(t *testing.T) {
	for _, size := range []int{mostText + 1, mostText + 2, 1 << 22} {
		for _, text := range []string{"", "x", head, "plan 0 1 1 2 2 1 8\n", head + "tock\n", head + "round\n#"} {
			wantFault(t, text+strings.Repeat("\n", size-len(text)), 0, api.ErrLong)
			wantFault(t, text+strings.Repeat("x", size-len(text)), 0, api.ErrLong)
		}
	}
}

func TestTooManySteps(t *testing.T) {
	full := head + strings.Repeat("tick\n", mostSteps)
	for _, line := range []string{"tick", "tock", "tick 1", " ", "plan", "op 4 0 0000000000000000"} {
		wantFault(t, full+line, mostSteps+2, api.ErrSteps)
		wantFault(t, "#\n\n"+full+"\n#\n"+line+"\n", mostSteps+6, api.ErrSteps)
	}
	// Just so many are played. The first tick begins an attempt, and every eighth from there on the next one.
	want := ""
	for i := range mostSteps {
		want += fmt.Sprintf("0 %d 0 -\n", map[bool]int{true: 1}[i%8 == 0])
	}
	wantRun(t, full, want+"= 0 0\n")
	wantRun(t, full+"#\n\n", want+"= 0 0\n")
}

// P22.1: Check's errors, and the plan's line.

// atFault: what stands in the places of a plan's line, and is no plan's.
func atFault() []string {
	list := []string{}
	for place, bounds := range [][]int{{1, 4}, {1, 4}, {1, 4}, {1, 4}, {1, 16}, {1, 4}, {8, 64}} {
		for _, n := range []int{bounds[0] - 1, bounds[1] + 1, -1, 256 + bounds[0], 1<<32 + bounds[0], math.MinInt, math.MaxInt} {
			parts := strings.Fields(head)
			parts[1+place] = fmt.Sprint(n)
			list = append(list, strings.Join(parts, " "))
		}
	}
	return append(list, "plan 0 0 0 0 0 0 0", "plan 5 5 5 5 17 5 65")
}

func TestNoPlan(t *testing.T) {
	for _, l := range ledgers() {
		for _, line := range atFault() {
			wantFault(t, l.text+line, l.count+1, api.ErrPlan)
			wantFault(t, l.text+line+"\n", l.count+1, api.ErrPlan)
		}
		for _, behind := range []string{"\n\n#\n", "\ntick\nround\n", "\nop 4 0 0000000000000000", "\n\nop 13 0 0000000000000000\ntick", strings.Repeat("\nop 4 0 0000000000000000", 9)} {
			wantFault(t, l.text+"plan 1 1 1 2 2 1 7"+behind, l.count+1, api.ErrPlan)
		}
	}
}

// TestNoPipeline: the lines of the pipeline are at fault, and the plan's own line, which is right, is told.
func TestNoPipeline(t *testing.T) {
	const right = "op 4 0 0000000000000000\n"
	for _, l := range ledgers() {
		for _, lines := range []string{
			"op 13 0 0000000000000000", "op 0 0 0000000000000000", "op -1 0 0000000000000000", "op 9223372036854775807 0 0000000000000000", "op 260 0 0000000000000000",
			"op 7 2201 0000000000000000", "op 7 -2201 0000000000000000", "op 7 -9223372036854775808 0000000000000000",
			"op 11 0 0000000000000000", "op 11 -1 0000000000000000", right + "op 13 0 0000000000000000", "op 13 0 0000000000000000\n" + right,
			strings.Repeat(right, 7) + "op 11 0 0000000000000000\n", strings.Repeat(right, 9), strings.Repeat(right, 10000), strings.Repeat("\n#\n"+right, 9),
		} {
			wantFault(t, l.text+head+lines, l.count+1, api.ErrOps)
			wantFault(t, l.text+head+"\n#\n\n"+lines+"\ntick\n", l.count+1, api.ErrOps)
		}
	}
	// Just eight steps are a pipeline.
	wantRun(t, head+strings.Repeat(right, 8), "= 0 0\n")
}

// TestFaultsInTheirOrder: what the text is at fault with is told ahead of what the plan is.
func TestFaultsInTheirOrder(t *testing.T) {
	for _, line := range append(atFault(), "plan 1 1 1 2 2 1 8\nop 13 0 0000000000000000", "plan 1 1 1 2 2 1 7\nop 13 0 0000000000000000") {
		lines := 1 + strings.Count(line, "\n")
		wantFault(t, "\n"+line+"\n#\ntock", lines+3, api.ErrWord)
		wantFault(t, "#\n"+line+"\n\ntick 1\n", lines+3, api.ErrLine)
		wantFault(t, line+"\n"+strings.Repeat("tick\n", mostSteps+1), lines+mostSteps+1, api.ErrSteps)
		wantFault(t, line+strings.Repeat("\n", mostText), 0, api.ErrLong)
	}
}

// TestPlansAtTheirLimits: each number at its least and at its greatest.
func TestPlansAtTheirLimits(t *testing.T) {
	for place, bounds := range [][]int{{1, 4}, {1, 4}, {1, 4}, {1, 4}, {1, 16}, {1, 4}, {8, 64}} {
		for _, n := range bounds {
			parts := strings.Fields(head)
			parts[1+place] = fmt.Sprint(n)
			ends := 1
			if place == 0 {
				ends = n
			}
			wantRun(t, strings.Join(parts, " "), "= 0"+strings.Repeat(" 0", ends)+"\n")
		}
	}
}

// P22.2: the transcript.

func TestATranscriptWithoutSteps(t *testing.T) {
	for parts := 1; parts <= 4; parts++ {
		for kind := 1; kind <= 4; kind++ {
			text := fmt.Sprintf("plan %d 3 2 %d 16 4 64", parts, kind)
			want := "= 0" + strings.Repeat(" 0", parts) + "\n"
			for _, behind := range []string{"", "\n", "\n\n", "\n#", "\nop 12 0 0000000000000000", "\n#\nop 12 0 0000000000000000\n\n"} {
				wantRun(t, text+behind, want)
			}
		}
	}
}

// TestEachStepAtEachCode: but for those at a limit.
func TestEachStepAtEachCode(t *testing.T) {
	list := []said{
		{"produce 0 7 4014000000000000", "0 1 0 -"}, {"produce 0 7 4000000000000000", "0 2 0 -"}, {"produce 0 9 3ff0000000000000", "0 3 0 -"},
		{"produce 1 7 4014000000000000", "60 0 0 -"}, {"produce -1 7 4014000000000000", "60 0 0 -"}, {"produce 9223372036854775807 7 4014000000000000", "60 0 0 -"},
		{"switch 0 0", "0 0 0 -"}, {"switch 0 -9223372036854775808", "0 0 0 -"}, {"switch 1 0", "60 0 0 -"}, {"switch -1 1", "60 0 0 -"},
		{"query 7", "0 0 0 -"}, {"query 18446744073709551615", "0 0 0 -"},
		{"tick", "0 1 0 -"}, {"tick", "0 0 0 -"},
		{"deliver 1", "161 0 0 -"}, {"deliver -1", "161 0 0 -"}, {"drop 1", "161 0 0 -"}, {"drop -9223372036854775808", "161 0 0 -"}, {"copy 1", "161 0 0 -"}, {"copy 4294967296", "161 0 0 -"},
		{"copy 0", "0 1 0 -"}, {"drop 1", "0 0 0 -"}, {"drop 1", "161 0 0 -"}, {"copy 0", "0 2 0 -"},
		{"crash 1", "0 0 0 -"}, {"crash 1", "202 0 0 -"}, {"deliver 2", "202 0 0 -"}, {"deliver 2", "161 0 0 -"}, {"crash 3", "170 0 0 -"}, {"crash -1", "170 0 0 -"},
		{"restart 3", "170 0 0 -"}, {"restart -1", "170 0 0 -"}, {"restart 0", "201 0 0 -"}, {"restart 1", "0 0 0 -"}, {"restart 1", "201 0 0 -"},
		{"cut 1 0", "170 0 0 -"}, {"cut 3 0", "170 0 0 -"}, {"cut -1 -1", "170 0 0 -"}, {"cut 2 -1", "1 0 0 -"}, {"cut 0 -9223372036854775808", "1 0 0 -"}, {"cut 2 9223372036854775807", "0 0 0 -"},
		{"crash 2", "0 0 0 -"}, {"cut 2 -1", "202 0 0 -"}, {"query 7", "202 0 0 -"}, {"restart 2", "0 0 0 -"}, {"query 7", "0 0 0 -"},
		{"crash 0", "0 0 0 -"}, {"tick", "202 0 0 -"}, {"round", "0 1 0 -"}, {"round", "0 1 0 -"}, {"round", "0 0 0 -"}, {"cut 0 1", "202 0 0 -"}, {"restart 0", "0 0 0 -"},
		{"cut 0 0", "0 0 0 -"}, {"tick", "80 0 0 -"}, {"tick", "202 0 0 -"}, {"restart 0", "0 0 0 -"},
		// The MsgReady that came while the coordinator didn't run is lost; the attempt 2 begins, with the number 4.
		{"tick", "0 1 0 -"}, {"deliver 3", "161 0 0 -"},
	}
	list = append(list, delivered("0 1 0 -", 4, 5, 6)...)
	list = append(list, said{"cut 2 1", "0 0 0 -"}, said{"deliver 7", "80 0 0 -"}, said{"deliver 7", "161 0 0 -"}, said{"restart 2", "0 0 0 -"})
	// The attempt 2 is given up at the eighth tick, and the attempt 3 begins.
	list = append(list, again(7, "tick", "0 0 0 -")...)
	list = append(list, said{"tick", "0 1 0 -"})
	list = append(list, delivered("0 1 0 -", 8, 9, 10, 11, 12, 13, 14)...)
	list = append(list, said{"deliver 15", "0 0 1 -"}, said{"query 7", "0 0 1 7"}, said{"query 9", "0 0 1 -"}, said{"drop 15", "161 0 1 -"}, said{"produce 0 8 bff0000000000000", "0 4 1 -"},
		said{"produce 4 8 bff0000000000000", "60 0 1 -"}, said{"cut 2 -1", "1 0 1 -"}, said{"crash 9", "170 0 1 -"}, said{"restart 2", "201 0 1 -"})
	list = append(list, said{"round", "0 0 1 -"})
	list = append(list, again(7, "round", "0 1 1 -")...)
	list = append(list, said{"round", "0 1 2 -"}, said{"query 8", "0 0 2 -1"}, said{"query 9", "0 0 2 1"}, said{"crash 0", "0 0 2 -"}, said{"tick", "202 0 2 -"}, said{"query 8", "0 0 2 -1"})
	wantSaid(t, head, list, "= 2 4", "7 7", "8 -1", "9 1")
}

func TestAFullPartition(t *testing.T) {
	list := []said{}
	for n := 1; n <= 256; n++ {
		list = append(list, said{"produce 1 7 bff0000000000000", fmt.Sprintf("0 %d 0 -", n)})
	}
	list = append(list, again(2, "produce 1 7 bff0000000000000", "61 0 0 -")...)
	list = append(list, said{"produce 0 5 bff0000000000000", "0 1 0 -"}, said{"produce 2 7 bff0000000000000", "60 0 0 -"})
	wantSaid(t, "plan 2 2 1 2 16 4 8\n", list, "= 0 0 0", "5 -", "7 -")
	x := begun(t, api.Plan{Parts: 2, Stores: 2, Workers: 1, Agg: api.AggSum, Batch: 16, Window: 4, GiveUp: 8})
	x.play(slices.Repeat([]api.Step{produce(1, 7, -1)}, 257)...)
	x.play(produce(0, 5, -1))
	x.play(rounds(20 + 10*16)...)
	if got := strings.Join(x.ending(t), ""); got != "= 16 1 256\n5 -1\n7 -256\n" {
		t.Fatalf("the ending is %q", got)
	}
	x.wantBeside(t)
}

// TestAKeyTooMany: the ninth example of the whole.
func TestAKeyTooMany(t *testing.T) {
	list := []said{{"produce 0 18446744073709551615 0000000000000000", "0 1 0 -"}}
	behind := []string{"= 0 0"}
	for n := 2; n <= 64; n++ {
		list = append(list, said{fmt.Sprintf("produce 0 %d 0000000000000000", 200-n), fmt.Sprintf("0 %d 0 -", n)})
		behind = append(behind, fmt.Sprintf("%d -", 134+n))
	}
	behind = append(behind, "18446744073709551615 -")
	list = append(list, said{"produce 0 200 0000000000000000", "62 0 0 -"}, said{"produce 0 18446744073709551614 0000000000000000", "62 0 0 -"},
		said{"produce 0 18446744073709551615 3ff0000000000000", "0 65 0 -"}, said{"produce 0 150 4000000000000000", "0 66 0 -"},
		// What the pipeline drops has no key.
		said{"produce 0 200 4014000000000000", "0 67 0 -"})
	wantSaid(t, head+"op 1 0 4014000000000000\n", list, behind...)
}

// crowd: a topology whose net is full behind fewer steps than a script has. Each copy of the MsgAssign of attempt 1 has its worker read it
// anew, each one of its MsgGo brings four MsgBegin, and each one of a MsgBegan that is too late has the worker forget it.
func crowd(t *testing.T) *beside {
	t.Helper()
	x := begun(t, api.Plan{Parts: 1, Stores: 4, Workers: 2, Agg: api.AggCount, Batch: 1, Window: 1, GiveUp: 8})
	const assign, goes, begin = 0, 3, 5
	x.play(produce(0, 7, 5), produce(0, 7, 5), tick(), double(assign), deliver(1), deliver(2), double(goes), deliver(4))
	// The attempt 1 is given up, and the attempt 2, of the other worker, is opened at the first store.
	x.play(slices.Repeat([]api.Step{tick()}, 8)...)
	x.play(deliver(9), deliver(10), deliver(11), deliver(12), deliver(begin))
	late := x.Flights()[len(x.Flights())-1]
	if late.Msg.Kind != api.MsgBegan || late.Msg.Attempt != 1 || late.Msg.Code != int(api.ErrFenced) {
		t.Fatalf("on their way are %v", x.Flights())
	}
	for range 750 {
		x.play(double(late.Number), double(assign), double(goes))
	}
	x.play(round())
	flights := x.Flights()
	x.play(slices.Repeat([]api.Step{double(flights[0].Number)}, 4096-len(flights))...)
	return x
}

func TestANetWithoutRoom(t *testing.T) {
	x := crowd(t)
	first := x.Flights()[0].Number
	x.play(double(first), double(-1), tick())
	was := len(x.told)
	if got := strings.Join(x.told[was-3:], ""); got != "160 0 0 -\n161 0 0 -\n0 0 0 -\n" {
		t.Fatalf("told is %q", got)
	}
	// The attempt 2 is given up, and the next one begins without room for its message.
	x.play(slices.Repeat([]api.Step{tick()}, 8)...)
	if tries := x.Tries(); len(tries) != 1 || tries[0].Attempt != 3 || len(x.Flights()) != 4096 {
		t.Fatalf("under way is %v", tries)
	}
	for _, line := range x.told[was:] {
		if line != "0 0 0 -\n" {
			t.Fatalf("told is %q", line)
		}
	}
	x.play(round())
	if got := x.told[len(x.told)-1]; got != "0 4096 0 -\n" {
		t.Fatalf("told is %q", got)
	}
	x.play(rounds(60)...)
	if got := strings.Join(x.ending(t), ""); got != "= 2 2\n7 2\n" {
		t.Fatalf("the ending is %q", got)
	}
	x.wantBeside(t)
}

// TestTheCommittedBatchAndItsEnds: the batch stands ahead of the ends, and these stand by their partitions.
func TestTheCommittedBatchAndItsEnds(t *testing.T) {
	for _, c := range []struct {
		p    string
		lens []int
		want string
	}{
		{"plan 1 1 1 1 2 1 8\n", []int{0}, "= 0 0\n"},
		{"plan 1 1 1 1 2 1 8\n", []int{1}, "= 1 1\n"},
		{"plan 1 1 1 1 2 1 8\n", []int{2}, "= 1 2\n"},
		{"plan 1 1 1 1 2 1 8\n", []int{3}, "= 2 3\n"},
		{"plan 1 1 1 1 1 4 64\n", []int{25}, "= 25 25\n"},
		{"plan 2 1 1 1 2 1 8\n", []int{3, 0}, "= 2 3 0\n"},
		{"plan 2 1 1 1 2 1 8\n", []int{0, 3}, "= 2 0 3\n"},
		{"plan 3 2 3 1 2 2 8\n", []int{2, 0, 5}, "= 3 2 0 5\n"},
		{"plan 4 4 4 1 16 4 8\n", []int{1, 32, 33, 4}, "= 3 1 32 33 4\n"},
	} {
		text := c.p
		for part, n := range c.lens {
			// All of them are dropped by the pipeline: there are no keys.
			text += strings.Repeat(fmt.Sprintf("produce %d 7 7ff8000000000001\n", part), n)
		}
		text = strings.Replace(text, "\n", "\nop 3 0 0000000000000000\n", 1)
		got, line, e := Run(text + strings.Repeat("round\n", 300))
		if line != 0 || e != api.OK || !strings.HasSuffix(got, " -\n"+c.want) {
			t.Errorf("Run(%q) is %q, %d, %d, not at its end %q", brief(text), brief(got), line, e, c.want)
		}
	}
}

// TestPartitionsThatAreOff: their records are not read, and stand behind the ends.
func TestPartitionsThatAreOff(t *testing.T) {
	list := []said{
		{"produce 0 1 4014000000000000", "0 1 0 -"}, {"produce 1 2 4014000000000000", "0 1 0 -"}, {"produce 2 3 4014000000000000", "0 1 0 -"}, {"produce 2 3 4014000000000000", "0 2 0 -"},
		{"switch 1 0", "0 0 0 -"}, {"round", "0 0 0 -"},
	}
	list = append(list, again(7, "round", "0 1 0 -")...)
	list = append(list, said{"round", "0 1 1 -"}, said{"query 2", "0 0 1 -"}, said{"query 3", "0 0 1 10"})
	wantSaid(t, "plan 3 1 1 2 4 1 8\n", list, "= 1 1 0 2", "1 5", "2 -", "3 10")
}

func TestValuesOfEachAggregate(t *testing.T) {
	for kind, want := range [][]string{
		{"3", "2", "1", "3"},
		{"-2", "0", "-9223372036854775808", "-4611686018427387904"},
		{"c01e000000000000", "8000000000000000", "fff0000000000000", "43d0000000000000"},
		{"7ff8000000000001", "0000000000000000", "fff0000000000000", "43d0000000000000"},
	} {
		list := []said{}
		for i, rec := range []string{
			"7 4014000000000000", "7 c01e000000000000", "7 fff0000000000009", "8 8000000000000000", "8 0000000000000000", "9 fff0000000000000",
			"10 43d0000000000000", "10 43d0000000000000", "10 43d0000000000000",
		} {
			list = append(list, said{"produce 0 " + rec, fmt.Sprintf("0 %d 0 -", i+1)})
		}
		list = append(list, said{"query 7", "0 0 0 -"}, said{"round", "0 0 0 -"})
		list = append(list, again(7, "round", "0 1 0 -")...)
		list = append(list, said{"query 7", "0 0 0 -"}, said{"round", "0 1 1 -"}, said{"produce 0 11 4014000000000000", "0 10 1 -"})
		behind := []string{"= 1 9"}
		for i, text := range want {
			list = append(list, said{fmt.Sprintf("query %d", 7+i), "0 0 1 " + text})
			behind = append(behind, fmt.Sprintf("%d %s", 7+i, text))
		}
		list = append(list, said{"query 11", "0 0 1 -"}, said{"query 12", "0 0 1 -"}, said{"query 18446744073709551615", "0 0 1 -"})
		wantSaid(t, fmt.Sprintf("plan 1 1 1 %d 16 1 8\n", kind+1), list, append(behind, "11 -")...)
	}
}

// TestStoresThatDontRun: a key whose store doesn't run has no value, whether there is something of it or nothing.
func TestStoresThatDontRun(t *testing.T) {
	for runs := range 1 << 4 {
		x := begun(t, api.Plan{Parts: 1, Stores: 4, Workers: 1, Agg: api.AggSum, Batch: 16, Window: 1, GiveUp: 8})
		for key := range uint64(8) {
			x.play(produce(0, key, -float64(key)))
		}
		x.play(produce(0, lastKey, 12), produce(0, lastKey-1, 0))
		x.play(rounds(9)...)
		for key := range uint64(4) {
			x.play(produce(0, 40+key, 1))
		}
		want := "= 1 10\n"
		for _, c := range []struct {
			key  uint64
			text string
		}{
			{0, "0"}, {1, "-1"}, {2, "-2"}, {3, "-3"}, {4, "-4"}, {5, "-5"}, {6, "-6"}, {7, "-7"}, {40, "-"}, {41, "-"}, {42, "-"}, {43, "-"}, {lastKey - 1, "0"}, {lastKey, "12"},
		} {
			if runs>>(c.key%4)&1 == 0 {
				c.text = "?"
			}
			want += fmt.Sprintf("%d %s\n", c.key, c.text)
		}
		for store := range 4 {
			if runs>>store&1 == 0 {
				x.play(crash(2 + store))
			}
		}
		x.play(query(2), query(7), query(99))
		if got := strings.Join(x.ending(t), ""); got != want {
			t.Fatalf("the ending is %q, not %q", got, want)
		}
		x.wantBeside(t)
		// The coordinator and the worker play no part.
		x.play(crash(0), crash(1))
		if got := strings.Join(x.ending(t), ""); got != want {
			t.Fatalf("the ending is %q, not %q", got, want)
		}
		x.wantBeside(t)
	}
}

// TestAStoreThatStartsAgain: what is committed is told again; so is nothing.
func TestAStoreThatStartsAgain(t *testing.T) {
	text := "plan 1 2 1 1 2 1 8\nproduce 0 4 0000000000000000\nproduce 0 5 0000000000000000\n" + strings.Repeat("round\n", 9)
	for _, c := range []struct {
		behind string
		want   string
	}{
		{"", "= 1 2\n4 1\n5 1\n"},
		{"crash 2\n", "0 0 1 -\n= 1 2\n4 ?\n5 1\n"},
		{"crash 3\n", "0 0 1 -\n= 1 2\n4 1\n5 ?\n"},
		{"crash 3\ncrash 2\n", "0 0 1 -\n0 0 1 -\n= 1 2\n4 ?\n5 ?\n"},
		{"crash 3\ncrash 2\nrestart 2\n", "0 0 1 -\n0 0 1 -\n0 0 1 -\n= 1 2\n4 1\n5 ?\n"},
		{"crash 3\nrestart 3\nproduce 0 6 0000000000000000\nproduce 0 7 0000000000000000\ncrash 2\n", "0 0 1 -\n0 0 1 -\n0 3 1 -\n0 4 1 -\n0 0 1 -\n= 1 2\n4 ?\n5 1\n6 ?\n7 -\n"},
		{"cut 2 0\n", "0 0 1 -\n= 1 2\n4 1\n5 1\n"},
	} {
		got, line, e := Run(text + c.behind)
		told := strings.Join(strings.SplitAfter(got, "\n")[min(11, strings.Count(got, "\n")):], "")
		if line != 0 || e != api.OK || told != c.want {
			t.Errorf("behind %q told is %q, %d, %d, not %q", c.behind, told, line, e, c.want)
		}
	}
}

// TestKeysRise: by their numbers, not by their texts, and in whatever order they came.
func TestKeysRise(t *testing.T) {
	keys := []uint64{0, 1, 2, 9, 10, 11, 99, 100, 1<<32 - 1, 1 << 32, 1<<63 - 1, 1 << 63, 1e19, lastKey - 1, lastKey}
	want := "= 0 0\n"
	for _, key := range keys {
		want += fmt.Sprintf("%d -\n", key)
	}
	var s state
	for range 20 {
		for i := range keys {
			at := s.below(i + 1)
			keys[i], keys[at] = keys[at], keys[i]
		}
		text, told := head, ""
		for i, key := range keys {
			text += fmt.Sprintf("produce 0 %d 3ff0000000000000\n", key)
			told += fmt.Sprintf("0 %d 0 -\n", i+1)
		}
		wantRun(t, text, told+want)
	}
	// The keys are those that the pipeline gives.
	wantRun(t, head+"op 11 5 0000000000000000\nproduce 0 18446744073709551615 0000000000000000\nproduce 0 7 0000000000000000\nproduce 0 12 0000000000000000\n", "0 1 0 -\n0 2 0 -\n0 3 0 -\n= 0 0\n0 -\n2 -\n")
	wantRun(t, head+"op 12 0 0000000000000000\nproduce 0 18446744073709551615 7ff8000000000001\nproduce 0 5 8000000000000000\n", "0 1 0 -\n0 2 0 -\n= 0 0\n21 -\n18446744073709551615 -\n")
}
