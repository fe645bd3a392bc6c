package script

import (
	"math"
	"math/big"
	"regexp"
	"slices"
	"strings"
	"testing"

	"reprise/api"
)

const (
	// mostText and mostSteps are how many bytes and how many steps a script has at most.
	mostText  = 1 << 18
	mostSteps = 4096
	// head is a plan's line, and opLine a pipeline's.
	head   = "plan 1 1 1 2 4 2 8\n"
	opLine = "op 4 0 0000000000000000\n"
	// lastKey is the greatest key.
	lastKey = math.MaxUint64
	// room is how much spare room stands behind what is handed in.
	room = 70
)

// fillStep and fillOp are what stands in the spare room of what is handed in.
var (
	fillStep = api.Step{Kind: 99, Node: 98, N: 97, Rec: api.Record{Key: 96, Val: 95}}
	fillOp   = api.Op{Kind: 99, N: 98, X: 97}
)

// headPlan: what head gives, with a pipeline.
func headPlan(list ...api.Op) api.Plan {
	return api.Plan{Parts: 1, Stores: 1, Workers: 1, Agg: 2, Batch: 4, Window: 2, GiveUp: 8, Ops: list}
}

// shape: a word and the sorts of its arguments: n is a number, k a key, f a float.
type shape struct {
	word  string
	sorts string
}

func planShape() shape { return shape{"plan", "nnnnnnn"} }
func opShape() shape   { return shape{"op", "nnf"} }

// stepShapes: those of the steps, in the order of their kinds.
func stepShapes() []shape {
	return []shape{
		{"produce", "nkf"}, {"switch", "nn"}, {"tick", ""}, {"deliver", "n"}, {"drop", "n"}, {"copy", "n"},
		{"cut", "nn"}, {"crash", "n"}, {"restart", "n"}, {"query", "k"}, {"round", ""},
	}
}

func shapes() []shape { return append([]shape{planShape(), opShape()}, stepShapes()...) }

// right: arguments that are right.
func (s shape) right() []string {
	var list []string
	for i, sort := range s.sorts {
		list = append(list, map[rune][]string{
			'n': {"3", "-4", "50", "6", "-70", "8", "0"},
			'k': {"3", "40", "0"},
			'f': {"4014000000000000", "bff0000000000000", "7ff8000000000009"},
		}[sort][i])
	}
	return list
}

// line: the shape's word with these arguments.
func (s shape) line(arguments []string) string {
	return strings.Join(append([]string{s.word}, arguments...), " ")
}

// with: a line that is right but for the argument at a place, which is this one.
func (s shape) with(at int, argument string) string {
	list := s.right()
	list[at] = argument
	return s.line(list)
}

// text: a script with this line at the shape's place, and the line's number.
func (s shape) text(line string) (string, int) {
	if s.word == "plan" {
		return line, 1
	}
	return head + line, 2
}

// rights and wrongs: words that are an argument of this sort, and words that are none.
func rights(sort rune) []string {
	switch sort {
	case 'n':
		return rightNumbers()
	case 'k':
		return rightKeys()
	}
	return rightFloats()
}

func wrongs(sort rune) []string {
	switch sort {
	case 'n':
		return append(wrongDigits(), "9223372036854775808", "-9223372036854775809", "18446744073709551615", "9223372036854775810", "-9223372036854775810")
	case 'k':
		return append(wrongDigits(), "-1", "-7", "-9223372036854775808", "-18446744073709551615", "18446744073709551616")
	}
	return wrongFloats()
}

func rightNumbers() []string {
	return []string{
		"0", "1", "-1", "5", "9", "10", "99", "100", "-10", "255", "256", "-32768", "65536",
		"2147483647", "2147483648", "-2147483648", "-2147483649", "4294967295", "4294967296", "1099511627776",
		"1000000000000000000", "9223372036854775806", "9223372036854775807", "-9223372036854775807", "-9223372036854775808",
	}
}

func rightKeys() []string {
	return []string{
		"0", "1", "5", "9", "10", "100", "255", "4294967295", "4294967296", "9223372036854775807", "9223372036854775808",
		"10000000000000000000", "18446744073709551614", "18446744073709551615",
	}
}

// wrongDigits: what is neither a number nor a key.
func wrongDigits() []string {
	return []string{
		"", "-", "+", "--", "+0", "+3", "-0", "-00", "00", "03", "-03", "007", "010", "--3", "-+3", "+-3", "3-", "-3-", "3+",
		"3.0", "3.", ".3", "1e3", "0x3", "0X3", "0b1", "0o7", "1_000", "_1", "1_", "3a", "a", "a3", "ff", "/", ":", "3/", ":3", "3,", "'3'", "(3)", "3#", "#3",
		"3\t", "\t3", "3\r", "\r", "\v3", "3\f", "3\x00", "\x003", "\x00", "\x7f3", "3\x80", "\x803", "\xff", "\xb3", "\xc2\xa03", "3\xc2\xa0",
		"\xd9\xa3", "\xef\xbc\x93", "3\xef\xbc\x93", "\xe2\x88\x923", "\xc2\xb2", "\xc2\xbd", "\xef\xbb\xbf3", "inf", "nan", "true", "nil",
		"18446744073709551616", "18446744073709551619", "18446744073709551620", "99999999999999999999", "100000000000000000000",
		"340282366920938463463374607431768211459", "-18446744073709551616", "-100000000000000000000",
		"09223372036854775807", "018446744073709551615", strings.Repeat("0", 30), strings.Repeat("9", 1000), "-" + strings.Repeat("9", 1000), strings.Repeat("0", 1000) + "3",
	}
}

func rightFloats() []string {
	return []string{
		"0000000000000000", "8000000000000000", "0000000000000001", "8000000000000001", "000fffffffffffff", "0010000000000000",
		"3ff0000000000000", "bff0000000000000", "4014000000000000", "7fefffffffffffff", "ffefffffffffffff", "7ff0000000000000", "fff0000000000000",
		"7ff0000000000001", "7ff4000000000000", "7ff8000000000000", "7ff8000000000001", "7ff8000000000009", "7fffffffffffffff",
		"fff0000000000001", "fff8000000000000", "ffffffffffffffff", "0123456789abcdef", "fedcba9876543210",
	}
}

func wrongFloats() []string {
	return []string{
		"", "0", "5", "5.0", "-5", "inf", "nan", "NaN", "401400000000000", "40140000000000000", "04014000000000000", "000000000000000", "00000000000000000",
		"401400000000000G", "401400000000000g", "401400000000000A", "401400000000000F", "A014000000000000", "7FF8000000000001", "7fF8000000000001", "ABCDEFABCDEFABCD",
		"401400000000000/", "401400000000000:", "401400000000000@", "401400000000000`", "401400000000000_", "401400000000000.", "401400000000000-", "401400000000000+",
		"-014000000000000", "+014000000000000", "0x40140000000000", "0X40140000000000", "4_14000000000000", "40140000_0000000",
		"401400000000000\x00", "\x00401400000000000", "401400000000000\t", "\r401400000000000", "401400000000000\xff", "\xb4014000000000000", "40140000000000\xc3\xa9",
		"4014000000000000\r", "\t4014000000000000", "4014000000000000#", "0000000000\xef\xbc\x94\xef\xbc\x94", "\xef\xbc\x94014000000000000",
		strings.Repeat("4", 32), strings.Repeat("0", 1000), strings.Repeat("0", 16) + "4014000000000000",
	}
}

// breadths: signs that are no blank, put in the place of one.
func breadths() []string {
	return []string{"", "\t", ",", ";", ":", "_", "\r", "\v", "\f", "\x00", "\x7f", "\x80", "\xa0", "\xc2\xa0", "\xe2\x80\x89", "\xe3\x80\x80", "\xff"}
}

// twin reads a script in another way: it cuts all of it first, holds each argument to a pattern and reckons it by math/big.
func twin(text string) (api.Plan, []api.Step, int, api.Errno) {
	if len(text) > mostText {
		return api.Plan{}, nil, 0, api.ErrLong
	}
	var p api.Plan
	var steps []api.Step
	planned := false
	all := strings.Split(text, "\n")
	for i, line := range all {
		if line == "" || strings.HasPrefix(line, "#") {
			continue
		}
		parts := strings.Split(line, " ")
		if e := twinFault(parts, planned, len(steps)); e != api.OK {
			return api.Plan{}, nil, i + 1, e
		}
		switch parts[0] {
		case "plan":
			p = twinPlan(parts)
			planned = true
		case "op":
			p.Ops = append(p.Ops, api.Op{Kind: int(twinNumber(parts[1])), N: twinNumber(parts[2]), X: twinFloat(parts[3])})
		default:
			steps = append(steps, twinStep(parts))
		}
	}
	if !planned {
		return api.Plan{}, nil, len(all), api.ErrWord
	}
	return p, steps, 0, api.OK
}

// twinFault: what a line is answered behind a plan's line or ahead of it, and behind so many steps.
func twinFault(parts []string, planned bool, count int) api.Errno {
	at := slices.IndexFunc(shapes(), func(s shape) bool { return s.word == parts[0] })
	if !planned && at != 0 {
		return api.ErrWord
	}
	if planned && (at != 1 || count > 0) {
		if count == mostSteps {
			return api.ErrSteps
		}
		if at < 2 {
			return api.ErrWord
		}
	}
	sorts := shapes()[at].sorts
	if len(parts) != 1+len(sorts) {
		return api.ErrLine
	}
	for i, sort := range sorts {
		if !twinIs(sort, parts[1+i]) {
			return api.ErrLine
		}
	}
	return api.OK
}

var (
	numberPattern = regexp.MustCompile(`\A(0|-?[1-9][0-9]*)\z`)
	keyPattern    = regexp.MustCompile(`\A(0|[1-9][0-9]*)\z`)
	floatPattern  = regexp.MustCompile(`\A[0-9a-f]{16}\z`)
)

func twinIs(sort rune, word string) bool {
	switch sort {
	case 'n':
		return numberPattern.MatchString(word) && twinBig(word, 10).IsInt64()
	case 'k':
		return keyPattern.MatchString(word) && twinBig(word, 10).IsUint64()
	}
	return floatPattern.MatchString(word)
}

func twinBig(word string, base int) *big.Int {
	x, ok := new(big.Int).SetString(word, base)
	if !ok {
		panic("the pattern let through " + word)
	}
	return x
}

func twinNumber(word string) int64  { return twinBig(word, 10).Int64() }
func twinKey(word string) uint64    { return twinBig(word, 10).Uint64() }
func twinFloat(word string) float64 { return math.Float64frombits(twinBig(word, 16).Uint64()) }

func twinPlan(parts []string) api.Plan {
	x := func(i int) int { return int(twinNumber(parts[i])) }
	return api.Plan{Parts: x(1), Stores: x(2), Workers: x(3), Agg: x(4), Batch: x(5), Window: x(6), GiveUp: x(7)}
}

func twinStep(parts []string) api.Step {
	x := func(i int) int { return int(twinNumber(parts[i])) }
	switch parts[0] {
	case "produce":
		return api.Step{Kind: 1, Node: x(1), Rec: api.Record{Key: twinKey(parts[2]), Val: twinFloat(parts[3])}}
	case "switch":
		return api.Step{Kind: 2, Node: x(1), N: x(2)}
	case "tick":
		return api.Step{Kind: 3}
	case "deliver":
		return api.Step{Kind: 4, N: x(1)}
	case "drop":
		return api.Step{Kind: 5, N: x(1)}
	case "copy":
		return api.Step{Kind: 6, N: x(1)}
	case "cut":
		return api.Step{Kind: 7, Node: x(1), N: x(2)}
	case "crash":
		return api.Step{Kind: 8, Node: x(1)}
	case "restart":
		return api.Step{Kind: 9, Node: x(1)}
	case "query":
		return api.Step{Kind: 10, Rec: api.Record{Key: twinKey(parts[1])}}
	}
	return api.Step{Kind: 11}
}

// bare: a script without its skipped lines, every line ended.
func bare(text string) string {
	var b strings.Builder
	for _, line := range strings.Split(text, "\n") {
		if line != "" && line[0] != '#' {
			b.WriteString(line + "\n")
		}
	}
	return b.String()
}

func sameOp(a api.Op, b api.Op) bool {
	return a.Kind == b.Kind && a.N == b.N && math.Float64bits(a.X) == math.Float64bits(b.X)
}

func samePlan(a api.Plan, b api.Plan) bool {
	return a.Parts == b.Parts && a.Stores == b.Stores && a.Workers == b.Workers && a.Agg == b.Agg &&
		a.Batch == b.Batch && a.Window == b.Window && a.GiveUp == b.GiveUp && slices.EqualFunc(a.Ops, b.Ops, sameOp)
}

func sameStep(a api.Step, b api.Step) bool {
	return a.Kind == b.Kind && a.Node == b.Node && a.N == b.N && a.Rec.Key == b.Rec.Key && math.Float64bits(a.Rec.Val) == math.Float64bits(b.Rec.Val)
}

// brief: a text as it is told.
func brief(text string) string {
	if len(text) > 120 {
		return text[:60] + " .. " + text[len(text)-60:]
	}
	return text
}

// wantParse tells of another answer than this one, and of one that isn't the same the second time.
func wantParse(t *testing.T, text string, p api.Plan, steps []api.Step, line int, e api.Errno) {
	t.Helper()
	for range 2 {
		gotPlan, gotSteps, gotLine, gotE := Parse(text)
		if gotE != e || gotLine != line {
			t.Errorf("Parse(%q) is line %d, error %d, not %d, %d", brief(text), gotLine, gotE, line, e)
			return
		}
		if !samePlan(gotPlan, p) {
			t.Errorf("Parse(%q) has another plan than %v", brief(text), p)
		}
		if !slices.EqualFunc(gotSteps, steps, sameStep) {
			t.Errorf("Parse(%q) has other steps, %d and not %d", brief(text), len(gotSteps), len(steps))
		}
		spoilAnswer(gotPlan, gotSteps)
	}
}

// spoilAnswer writes over an answer, so that one which shares memory with it is told by whoever looks at that.
func spoilAnswer(p api.Plan, steps []api.Step) {
	spoil(p.Ops, fillOp)
	spoil(steps, fillStep)
}

// spoil writes over a list and over its spare room, and grows it.
func spoil[E any](list []E, with E) {
	all := list[:cap(list)]
	for i := range all {
		all[i] = with
	}
	_ = append(list, with)
}

func wantFault(t *testing.T, text string, line int, e api.Errno) {
	t.Helper()
	wantParse(t, text, api.Plan{}, nil, line, e)
}

// wantStep: a script of head and this line gives this step alone, and is printed so.
func wantStep(t *testing.T, line string, s api.Step) {
	t.Helper()
	wantParse(t, head+line, headPlan(), []api.Step{s}, 0, api.OK)
	wantParse(t, head+line+"\n", headPlan(), []api.Step{s}, 0, api.OK)
	wantPrint(t, headPlan(), []api.Step{s}, head+line+"\n")
}

// wantTwin tells of an answer that isn't the twin's, and whether there is an error. Without one, it is held to P21.3 too.
func wantTwin(t *testing.T, text string) api.Errno {
	t.Helper()
	p, steps, line, e := twin(text)
	wantParse(t, text, p, steps, line, e)
	if e == api.OK && len(bare(text)) <= mostText {
		wantPrint(t, p, steps, bare(text))
	}
	return e
}

// wantPrint tells of another script than this one, and of what was handed in and changed.
func wantPrint(t *testing.T, p api.Plan, steps []api.Step, want string) {
	t.Helper()
	in, list := p, roomy(steps, fillStep)
	in.Ops = roomy(p.Ops, fillOp)
	text, e := Print(in, list)
	if e != api.OK || text != want {
		t.Errorf("Print(%d ops, %d steps) is %q, %d, not %q", len(p.Ops), len(steps), brief(text), e, brief(want))
	}
	wantRoomy(t, in.Ops, p.Ops, fillOp, sameOp)
	wantRoomy(t, list, steps, fillStep, sameStep)
	spoil(in.Ops, api.Op{})
	spoil(list, api.Step{})
	if e == api.OK && text != want {
		t.Errorf("what Print answered hangs on what was handed in: it is %q now", brief(text))
	}
}

func wantRefused(t *testing.T, p api.Plan, steps []api.Step, want api.Errno) {
	t.Helper()
	in, list := p, roomy(steps, fillStep)
	in.Ops = roomy(p.Ops, fillOp)
	if text, e := Print(in, list); text != "" || e != want {
		t.Errorf("Print(%d ops, %d steps) is %q, %d, not error %d", len(p.Ops), len(steps), brief(text), e, want)
	}
	wantRoomy(t, in.Ops, p.Ops, fillOp, sameOp)
	wantRoomy(t, list, steps, fillStep, sameStep)
}

// roomy is a list with spare room behind it that is filled.
func roomy[E any](list []E, with E) []E {
	return append(slices.Clone(list), slices.Repeat([]E{with}, room)...)[:len(list)]
}

// wantRoomy tells if a list, or the spare room behind it, isn't what roomy made of old.
func wantRoomy[E any](t *testing.T, list []E, old []E, with E, same func(E, E) bool) {
	t.Helper()
	want := append(slices.Clone(old), slices.Repeat([]E{with}, room)...)
	if !slices.EqualFunc(list[:len(list)+room], want, same) {
		t.Error("what was handed in was changed")
	}
}

// state makes numbers that look like random ones.
type state uint64

func (s *state) next() uint64 {
	*s = *s*6364136223846793005 + 1442695040888963407
	return uint64(*s) >> 32
}

func (s *state) below(n int) int { return int(s.next()>>1) % n }

func oneOf[E any](s *state, list []E) E { return list[s.below(len(list))] }

func (s *state) bits() uint64 { return s.next()<<32 | s.next() }

// number: any whole number, one of few digits as often as one of many.
func (s *state) number() int {
	if s.below(8) == 0 {
		return oneOf(s, []int{0, -1, 1, math.MinInt, math.MinInt + 1, math.MaxInt})
	}
	return int(s.bits()) >> s.below(64)
}

func (s *state) key() uint64 {
	if s.below(8) == 0 {
		return oneOf(s, []uint64{0, 1, 1 << 63, 1<<63 - 1, lastKey})
	}
	return s.bits() >> s.below(64)
}

// float: any bits; now and then one of those at the edges.
func (s *state) float() float64 {
	switch s.below(4) {
	case 0:
		return twinFloat(oneOf(s, rightFloats()))
	case 1:
		return float64(s.below(100) - 50)
	}
	return math.Float64frombits(s.bits())
}

func (s *state) plan() api.Plan {
	p := api.Plan{Parts: s.number(), Stores: s.number(), Workers: s.number(), Agg: s.number(), Batch: s.number(), Window: s.number(), GiveUp: s.number()}
	for range s.below(12) {
		p.Ops = append(p.Ops, api.Op{Kind: s.number(), N: int64(s.number()), X: s.float()})
	}
	return p
}

// step: any that can be printed.
func (s *state) step() api.Step {
	kind := 1 + s.below(11)
	step := api.Step{Kind: kind}
	sorts := stepShapes()[kind-1].sorts
	switch {
	case sorts == "nn":
		step.Node, step.N = s.number(), s.number()
	case sorts == "nkf":
		step.Node, step.Rec = s.number(), api.Record{Key: s.key(), Val: s.float()}
	case sorts == "k":
		step.Rec.Key = s.key()
	case sorts == "n" && (kind == api.StepCrash || kind == api.StepRestart):
		step.Node = s.number()
	case sorts == "n":
		step.N = s.number()
	}
	return step
}

func (s *state) steps(count int) []api.Step {
	var list []api.Step
	for range count {
		list = append(list, s.step())
	}
	return list
}

// skipping: the script with skipped lines put in, and with or without an end of its last line.
func (s *state) skipping(text string) string {
	skipped := []string{"", "#", "##", "# tick", "#\t", "#plan 1 1 1 2 4 2 8", "#\xff\x00"}
	var b []string
	for _, line := range strings.Split(strings.TrimSuffix(text, "\n"), "\n") {
		for s.below(3) == 0 {
			b = append(b, oneOf(s, skipped))
		}
		b = append(b, line)
	}
	for s.below(3) == 0 {
		b = append(b, oneOf(s, skipped))
	}
	return strings.Join(b, "\n")
}

// bent: a script with some of its bytes taken out, put in or changed.
func (s *state) bent(text string) string {
	b := []byte(text)
	for range 1 + s.below(3) {
		at := s.below(len(b) + 1)
		sign := oneOf(s, []byte("  \n\n#-+0123456789abcdefgopktx\t\r\xff\xa0AF"))
		switch s.below(3) {
		case 0:
			b = slices.Insert(b, at, sign)
		case 1:
			b = slices.Delete(b, min(at, len(b)), min(at+1, len(b)))
		case 2:
			if at < len(b) {
				b[at] = sign
			}
		}
	}
	return string(b)
}

// full: a plan whose script has just so many bytes, all of them the plan's line and pipeline's lines.
func full(size int) api.Plan {
	left := size - len(head)
	list := slices.Repeat([]api.Op{{Kind: 4}}, left/len(opLine))
	spare := left % len(opLine)
	// Each further digit of an N is one byte more, and an N has room for 18 of them.
	for at := 0; spare > 0; at++ {
		digits := min(spare, 18)
		list[at].N = int64(math.Pow10(digits))
		spare -= digits
	}
	return headPlan(list...)
}

// brimming: just MaxSteps steps whose script, behind head, has just MaxText bytes.
func brimming() []api.Step {
	// A line has 27 bytes beside Node's 20 and the key's.
	long := api.Step{Kind: api.StepProduce, Node: math.MinInt, Rec: api.Record{Key: 1e16, Val: 5}}
	short := long
	short.Rec.Key = 1e15
	spare := mostSteps*64 - (mostText - len(head))
	return append(slices.Repeat([]api.Step{long}, mostSteps-spare), slices.Repeat([]api.Step{short}, spare)...)
}

func ticks(count int) []api.Step { return slices.Repeat([]api.Step{{Kind: api.StepTick}}, count) }
