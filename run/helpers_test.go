package run

import (
	"fmt"
	"math"
	"slices"
	"strings"
	"testing"

	"reprise/api"
	"reprise/fold"
	"reprise/plan"
	"reprise/script"
	"reprise/topo"
)

const (
	// mostText and mostSteps are how many bytes and how many steps a script has at most.
	mostText  = 1 << 18
	mostSteps = 4096
	// head is the line of the chapter's plan: the coordinator is node 0, the worker 1, the store 2.
	head = "plan 1 1 1 2 2 1 8\n"
	// lastKey is the greatest key.
	lastKey = math.MaxUint64
)

// wantRun tells of another transcript than this one, beside which there are no line and no error; and of one that isn't the same again.
func wantRun(t *testing.T, text string, want string) {
	t.Helper()
	for range 2 {
		got, line, e := Run(text)
		if line != 0 || e != api.OK {
			t.Fatalf("Run(%q) is line %d, error %d", brief(text), line, e)
		}
		wantLines(t, text, got, want)
	}
}

// wantLines holds two transcripts against each other line by line.
func wantLines(t *testing.T, text string, got string, want string) {
	t.Helper()
	if got == want {
		return
	}
	is, asked := strings.SplitAfter(got, "\n"), strings.SplitAfter(want, "\n")
	for i := range min(len(is), len(asked)) {
		if is[i] != asked[i] {
			t.Fatalf("Run(%q): line %d of the transcript is %q, not %q", brief(text), i+1, is[i], asked[i])
		}
	}
	t.Fatalf("Run(%q): the transcript has %d lines, not %d", brief(text), len(is)-1, len(asked)-1)
}

// wantFault tells of another line or error than these, and of a transcript beside them.
func wantFault(t *testing.T, text string, line int, e api.Errno) {
	t.Helper()
	for range 2 {
		if got, gotLine, gotE := Run(text); got != "" || gotLine != line || gotE != e {
			t.Fatalf("Run(%q) is %q, line %d, error %d, not line %d, error %d", brief(text), brief(got), gotLine, gotE, line, e)
		}
	}
}

// brief: a text as it is told.
func brief(text string) string {
	if len(text) > 240 {
		return text[:120] + " .. " + text[len(text)-120:]
	}
	return text
}

// said: a step's line in the script, and what stands in the transcript for it.
type said struct {
	line string
	told string
}

// wantSaid: a script of these lines ahead of the steps, and of these steps, has just this transcript.
func wantSaid(t *testing.T, ahead string, list []said, behind ...string) {
	t.Helper()
	text, want := ahead, ""
	for _, s := range list {
		text += s.line + "\n"
		want += s.told + "\n"
	}
	got, line, e := Run(text)
	if line != 0 || e != api.OK {
		t.Fatalf("Run(%q) is line %d, error %d", brief(text), line, e)
	}
	is := strings.Split(got, "\n")
	for i, s := range list {
		if i < len(is) && is[i] != s.told {
			t.Fatalf("step %d, %q, is told as %q, not as %q", i+1, s.line, is[i], s.told)
		}
	}
	for _, line := range behind {
		want += line + "\n"
	}
	wantRun(t, text, want)
}

// again: a step so often, each time told so.
func again(count int, line string, told string) []said {
	return slices.Repeat([]said{{line, told}}, count)
}

// delivered: these messages come, each told so.
func delivered(told string, numbers ...int) []said {
	list := []said{}
	for _, k := range numbers {
		list = append(list, said{fmt.Sprintf("deliver %d", k), told})
	}
	return list
}

// The plan and the steps as texts, and the answers, as the chapters' words have them.

func planText(p api.Plan) string {
	text := fmt.Sprintf("plan %d %d %d %d %d %d %d\n", p.Parts, p.Stores, p.Workers, p.Agg, p.Batch, p.Window, p.GiveUp)
	for _, o := range p.Ops {
		text += fmt.Sprintf("op %d %d %016x\n", o.Kind, o.N, math.Float64bits(o.X))
	}
	return text
}

func stepText(s api.Step) string {
	switch s.Kind {
	case api.StepProduce:
		return fmt.Sprintf("produce %d %d %016x", s.Node, s.Rec.Key, math.Float64bits(s.Rec.Val))
	case api.StepSwitch:
		return fmt.Sprintf("switch %d %d", s.Node, s.N)
	case api.StepTick:
		return "tick"
	case api.StepDeliver:
		return fmt.Sprintf("deliver %d", s.N)
	case api.StepDrop:
		return fmt.Sprintf("drop %d", s.N)
	case api.StepCopy:
		return fmt.Sprintf("copy %d", s.N)
	case api.StepCut:
		return fmt.Sprintf("cut %d %d", s.Node, s.N)
	case api.StepCrash:
		return fmt.Sprintf("crash %d", s.Node)
	case api.StepRestart:
		return fmt.Sprintf("restart %d", s.Node)
	case api.StepQuery:
		return fmt.Sprintf("query %d", s.Rec.Key)
	}
	return "round"
}

func valueText(kind int, v api.Value) string {
	switch {
	case !v.Has:
		return "-"
	case kind == api.AggCount:
		return fmt.Sprintf("%d", v.Bits)
	case kind == api.AggSum:
		return fmt.Sprintf("%d", int64(v.Bits))
	}
	return fmt.Sprintf("%016x", v.Bits)
}

// beside is a topology that is played beside Run: each step that it plays is kept as a line of a script, and what it answered as
// one of a transcript.
type beside struct {
	*topo.Topo
	p     api.Plan
	lines []string
	told  []string
	codes map[api.Errno]int // how often a step had this code
}

func begun(t *testing.T, p api.Plan) *beside {
	t.Helper()
	x, e := topo.New(p)
	if e != api.OK {
		t.Fatalf("New(%v) is %d", p, e)
	}
	return &beside{Topo: x, p: p, codes: map[api.Errno]int{}}
}

func (x *beside) play(list ...api.Step) {
	for _, s := range list {
		a := x.Play(s)
		x.codes[a.Code]++
		x.lines = append(x.lines, stepText(s)+"\n")
		x.told = append(x.told, fmt.Sprintf("%d %d %d %s\n", a.Code, a.Number, a.Batch, valueText(x.p.Agg, a.Val)))
	}
}

// text: the script of what was played.
func (x *beside) text() string { return planText(x.p) + strings.Join(x.lines, "") }

// transcript: what Run is to tell of that. What it tells of the keys is reckoned out of the records ahead of the committed ends.
func (x *beside) transcript(t *testing.T) string {
	t.Helper()
	return strings.Join(x.told, "") + strings.Join(x.ending(t), "")
}

// ending: the lines behind those of the steps.
func (x *beside) ending(t *testing.T) []string {
	t.Helper()
	batch, ends := x.Committed()
	line, recs := fmt.Sprintf("= %d", batch), []api.Record{}
	for part, end := range ends {
		line += fmt.Sprintf(" %d", end)
		recs = append(recs, x.Log(part)[:end]...)
	}
	table, _, e := fold.Batch(x.p.Ops, x.p.Agg, recs)
	if e != api.OK {
		t.Fatalf("fold.Batch is %d", e)
	}
	list := []string{line + "\n"}
	for _, key := range x.Keys() {
		text := "?"
		if x.Up(keeper(x.p, key)) {
			text = valueText(x.p.Agg, fold.Find(table, key))
		}
		list = append(list, fmt.Sprintf("%d %s\n", key, text))
	}
	return list
}

// wantBeside: Run tells of the script what the topology told.
func (x *beside) wantBeside(t *testing.T) {
	t.Helper()
	wantRun(t, x.text(), x.transcript(t))
}

// keeper: the store that keeps a key.
func keeper(p api.Plan, key uint64) int { return 1 + p.Workers + int(key%uint64(p.Stores)) }

// wantTwin holds Run of any text to what the chapters' words make of it, and tells with which error.
func wantTwin(t *testing.T, text string) api.Errno {
	t.Helper()
	p, steps, line, e := script.Parse(text)
	if e != api.OK {
		wantFault(t, text, line, e)
		return e
	}
	if e := plan.Check(p); e != api.OK {
		first := slices.IndexFunc(strings.Split(text, "\n"), func(line string) bool { return !skipped(line) })
		wantFault(t, text, first+1, e)
		return e
	}
	x := begun(t, p)
	x.play(steps...)
	wantRun(t, text, x.transcript(t))
	return api.OK
}

// skipped: whether a line of a script is.
func skipped(line string) bool { return line == "" || line[0] == '#' }

// skips: lines that are skipped.
func skips() []string {
	return []string{"", "#", "##", "# tick", "#\t", "#plan 1 1 1 2 2 1 8", "#plan 0 0 0 0 0 0 0", "#\xff\x00", "#\r", "# " + strings.Repeat("=", 99)}
}

// ledger: lines ahead of a plan's, all of them skipped, and how many there are.
type ledger struct {
	text  string
	count int
}

func ledgers() []ledger {
	return []ledger{
		{"", 0}, {"\n", 1}, {"#\n", 1}, {"\n\n", 2}, {"#\n\n", 2}, {"\n#\n", 2}, {"#a\n#b\n", 2}, {"# plan 1 1 1 2 2 1 8\n\n\n", 3},
		{"##\n#\n\n# op 4 0 0000000000000000\n\n", 5}, {strings.Repeat("\n", 99), 99}, {strings.Repeat("#x\n", 100), 100}, {strings.Repeat("\n#\n", 5000), 10000},
	}
}

// The steps.

func produce(part int, key uint64, val float64) api.Step {
	return api.Step{Kind: api.StepProduce, Node: part, Rec: api.Record{Key: key, Val: val}}
}

func turn(part int, on int) api.Step { return api.Step{Kind: api.StepSwitch, Node: part, N: on} }

func tick() api.Step { return api.Step{Kind: api.StepTick} }

func deliver(k int) api.Step { return api.Step{Kind: api.StepDeliver, N: k} }

func double(k int) api.Step { return api.Step{Kind: api.StepCopy, N: k} }

func cut(node int, n int) api.Step { return api.Step{Kind: api.StepCut, Node: node, N: n} }

func crash(node int) api.Step { return api.Step{Kind: api.StepCrash, Node: node} }

func restart(node int) api.Step { return api.Step{Kind: api.StepRestart, Node: node} }

func query(key uint64) api.Step { return api.Step{Kind: api.StepQuery, Rec: api.Record{Key: key}} }

func round() api.Step { return api.Step{Kind: api.StepRound} }

func rounds(count int) []api.Step { return slices.Repeat([]api.Step{round()}, count) }

// plans: several, no two of which have much in common.
func plans() []api.Plan {
	return []api.Plan{
		{Parts: 1, Stores: 1, Workers: 1, Agg: api.AggSum, Batch: 2, Window: 1, GiveUp: 8},
		{Parts: 2, Stores: 2, Workers: 2, Agg: api.AggSum, Batch: 2, Window: 2, GiveUp: 8},
		{Parts: 2, Stores: 2, Workers: 2, Ops: []api.Op{{Kind: api.OpRegroup, N: 7}}, Agg: api.AggCount, Batch: 3, Window: 2, GiveUp: 8},
		{Parts: 3, Stores: 3, Workers: 1, Ops: []api.Op{{Kind: api.OpInverse}, {Kind: api.OpNeed}}, Agg: api.AggLeast, Batch: 1, Window: 4, GiveUp: 9},
		{Parts: 4, Stores: 4, Workers: 4, Agg: api.AggMost, Batch: 16, Window: 3, GiveUp: 64},
		{Parts: 2, Stores: 1, Workers: 3, Ops: []api.Op{{Kind: api.OpPer, N: -12}, {Kind: api.OpSide}}, Agg: api.AggSum, Batch: 2, Window: 4, GiveUp: 12},
		{Parts: 1, Stores: 4, Workers: 2, Ops: []api.Op{{Kind: api.OpReal}, {Kind: api.OpScale, N: -3}, {Kind: api.OpLess, X: 1e299}}, Agg: api.AggMost, Batch: 5, Window: 3, GiveUp: 10},
	}
}

// state is a row of numbers, always the same ones.
type state uint64

func (s *state) below(n int) int {
	*s = *s*6364136223846793005 + 1442695040888963407
	return int(*s>>33) % n
}

// oneOf: one of a list.
func oneOf[E any](s *state, list []E) E { return list[s.below(len(list))] }

// skipping: the script with skipped lines put in, ahead of the first line and behind the last one too, and with or without an end of
// the last one.
func (s *state) skipping(text string) string {
	var list []string
	for _, line := range strings.Split(strings.TrimSuffix(text, "\n"), "\n") {
		for s.below(3) == 0 {
			list = append(list, oneOf(s, skips()))
		}
		list = append(list, line)
	}
	for s.below(3) == 0 {
		list = append(list, oneOf(s, skips()))
	}
	return strings.Join(list, "\n")
}
