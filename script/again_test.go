package script

import (
	"slices"
	"strings"
	"testing"

	"reprise/api"
)

// P21.3.

func TestThereAndBackOfWhatIsPrinted(t *testing.T) {
	s := state(1)
	for i := range 1500 {
		p, steps := s.plan(), s.steps(s.below(1+i%60))
		text, e := Print(p, steps)
		if e != api.OK {
			t.Fatalf("Print(%v, %v) is %d", p, steps, e)
		}
		wantParse(t, text, p, steps, 0, api.OK)
		wantPrint(t, p, steps, text)
		wantTwin(t, text)
	}
}

func TestThereAndBackOfManySteps(t *testing.T) {
	s := state(2)
	for _, count := range []int{mostSteps - 1, mostSteps} {
		p, steps := s.plan(), s.steps(count)
		text, e := Print(p, steps)
		if e != api.OK {
			t.Fatalf("%d steps: %d", count, e)
		}
		wantParse(t, text, p, steps, 0, api.OK)
		wantFault(t, text+strings.Repeat("round\n", mostSteps-count+1), 2+len(p.Ops)+mostSteps, api.ErrSteps)
	}
}

func TestThereAndBackOfATextWithSkippedLines(t *testing.T) {
	s := state(3)
	for range 1500 {
		p, steps := s.plan(), s.steps(s.below(12))
		text, e := Print(p, steps)
		if e != api.OK {
			t.Fatalf("Print(%v, %v) is %d", p, steps, e)
		}
		for _, more := range []string{s.skipping(text), s.skipping(text) + "\n"} {
			wantParse(t, more, p, steps, 0, api.OK)
			wantPrint(t, p, steps, bare(more))
			if bare(more) != text {
				t.Errorf("%q without its skipped lines is %q", more, bare(more))
			}
		}
	}
}

// TestBentScripts: most of them have a fault, and which and where is as the twin says.
func TestBentScripts(t *testing.T) {
	s := state(4)
	right, wrong := 0, 0
	for range 15000 {
		p := s.plan()
		p.Ops = p.Ops[:min(len(p.Ops), 2)]
		text, _ := Print(p, s.steps(s.below(4)))
		if e := wantTwin(t, s.bent(text)); e == api.OK {
			right++
		} else {
			wrong++
		}
	}
	if right < 1000 || wrong < 1000 {
		t.Errorf("only %d texts are right and %d wrong", right, wrong)
	}
}

// TestLinesInAnyOrder: words where they belong and where they don't.
func TestLinesInAnyOrder(t *testing.T) {
	s := state(5)
	for range 15000 {
		var lines []string
		for range s.below(7) {
			x := oneOf(&s, append(shapes(), planShape(), planShape(), opShape(), opShape()))
			list := x.right()
			if s.below(12) == 0 {
				list = append(list, "1")
			}
			lines = append(lines, oneOf(&s, []string{x.line(list), x.line(list), x.line(list), "", "#"}))
		}
		wantTwin(t, strings.Join(lines, "\n"))
	}
}

// TestAFullTextWhoseLastLineIsntEnded: it is read, but there is no room for the byte that would end it.
func TestAFullTextWhoseLastLineIsntEnded(t *testing.T) {
	long, e := Print(full(mostText-20), nil)
	if e != api.OK {
		t.Fatal(e)
	}
	for _, end := range []string{"deliver 100000000000", "copy 100000000000000"} {
		text := long + end
		p, steps, line, e := Parse(text)
		if len(text) != mostText || e != api.OK || line != 0 || len(steps) != 1 {
			t.Fatalf("%d bytes: %d, %d", len(text), line, e)
		}
		wantRefused(t, p, steps, api.ErrLong)
		// One byte less, and there is room for it.
		text = text[:mostText-1]
		p, steps, line, e = Parse(text)
		if e != api.OK || line != 0 {
			t.Fatalf("%d bytes: %d, %d", len(text), line, e)
		}
		wantPrint(t, p, steps, text+"\n")
	}
	// A skipped line makes room too.
	text := "\n" + long + "deliver 10000000000"
	p, steps, _, e := Parse(text)
	if len(text) != mostText || e != api.OK {
		t.Fatalf("%d bytes: %d", len(text), e)
	}
	wantPrint(t, p, steps, text[1:]+"\n")
	text = strings.TrimSuffix(long, "\n")
	p, steps, _, e = Parse(text + "\n#" + strings.Repeat("x", mostText-len(text)-2))
	if e != api.OK {
		t.Fatal(e)
	}
	wantPrint(t, p, steps, long)
}

// P21.4.

// TestAnswersAreNewMemory: what is done to one answer changes neither another one nor what is answered later.
func TestAnswersAreNewMemory(t *testing.T) {
	s := state(6)
	for _, count := range []int{0, 1, 2, 3, 5, 100} {
		p, steps := s.plan(), s.steps(count)
		text, _ := Print(p, steps)
		onePlan, oneSteps, _, _ := Parse(text)
		twoPlan, twoSteps, _, _ := Parse(text)
		spoilAnswer(onePlan, oneSteps)
		if !samePlan(twoPlan, p) || !slices.EqualFunc(twoSteps, steps, sameStep) {
			t.Errorf("%q: one answer hangs on the other", text)
		}
		wantParse(t, text, p, steps, 0, api.OK)
	}
}

// TestParseKeepsNothing: an answer doesn't hang on what was read ahead of it, a fault neither.
func TestParseKeepsNothing(t *testing.T) {
	for _, ahead := range []string{"", head + opLine + "tick", head + "tock", head + strings.Repeat("tick\n", mostSteps+1), strings.Repeat("#", mostText+1), head + "deliver 3 "} {
		Parse(ahead)
		wantFault(t, "tick", 1, api.ErrWord)
		Parse(ahead)
		wantParse(t, head, headPlan(), nil, 0, api.OK)
		Print(api.Plan{}, []api.Step{{Kind: 12}})
		wantPrint(t, headPlan(), ticks(1), head+"tick\n")
	}
}

// TestTextsOfAnyBytes: every call ends and none panics (P1).
func TestTextsOfAnyBytes(t *testing.T) {
	s := state(7)
	for range 5000 {
		b := []byte(oneOf(&s, []string{"", head, head + opLine, "plan"}))
		for range s.below(40) {
			b = append(b, byte(s.next()>>8))
		}
		wantTwin(t, string(b))
	}
}
