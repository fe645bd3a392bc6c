package script

import (
	"iter"
	"math"
	"strconv"
	"strings"

	"reprise/api"
)

// noReading is what a line at fault gives the reading up with.
const noReading = "script: a line at fault"

// reader takes a script line by line. At a fault it keeps it and gives the reading up by panic.
type reader struct {
	line    int    // the number of the line that is looked at
	left    string // what of this line isn't taken yet: no bytes, or a blank and what stands behind it
	fault   api.Errno
	planned bool // whether the plan's line has come
	plan    api.Plan
	steps   []api.Step
}

// refuse panics, if this is a fault.
func (r *reader) refuse(wrong bool, e api.Errno) {
	if wrong {
		r.fault = e
		panic(noReading)
	}
}

func (r *reader) read(text string) {
	for number, line := range lines(text) {
		r.line = number
		if line != "" && line[0] != skip {
			r.take(line)
		}
	}
	r.refuse(!r.planned, api.ErrWord)
}

// lines: a text's lines with their numbers. There is one more than bytes that end one.
func lines(text string) iter.Seq2[int, string] {
	return func(yield func(int, string) bool) {
		left := text
		for number := 1; ; number++ {
			line, rest, more := strings.Cut(left, lineEnd)
			if !yield(number, line) || !more {
				return
			}
			left = rest
		}
	}
}

// take: a line that isn't skipped. What it is hangs on those ahead of it.
func (r *reader) take(line string) {
	word := r.begin(line)
	switch {
	case !r.planned:
		r.refuse(word != planWord, api.ErrWord)
		r.takePlan()
	case word == opWord && len(r.steps) == 0:
		r.takeOp()
	default:
		r.refuse(len(r.steps) == api.MaxSteps, api.ErrSteps)
		r.takeStep(word)
	}
	r.refuse(r.left != "", api.ErrLine)
}

func (r *reader) takePlan() {
	for _, field := range planFields(&r.plan) {
		*field = int(r.number())
	}
	r.planned = true
}

func (r *reader) takeOp() {
	var o api.Op
	o.Kind = int(r.number())
	o.N = r.number()
	o.X = r.float()
	r.plan.Ops = append(r.plan.Ops, o)
}

func (r *reader) takeStep(word string) {
	f, known := formNamed(word)
	r.refuse(!known, api.ErrWord)
	s := api.Step{Kind: f.kind}
	if f.gives&givesNode != 0 {
		s.Node = int(r.number())
	}
	if f.gives&givesN != 0 {
		s.N = int(r.number())
	}
	if f.gives&givesKey != 0 {
		s.Rec.Key = r.key()
	}
	if f.gives&givesVal != 0 {
		s.Rec.Val = r.float()
	}
	r.steps = append(r.steps, s)
}

// begin: a line's word. Its arguments are left.
func (r *reader) begin(line string) string {
	word, left := ahead(line)
	r.left = left
	return word
}

// argument takes the next one of the line.
func (r *reader) argument() string {
	r.refuse(r.left == "", api.ErrLine)
	word, left := ahead(r.left[1:])
	r.left = left
	return word
}

// ahead: what stands ahead of the first blank, and the rest from this blank on.
func ahead(s string) (string, string) {
	at := strings.IndexByte(s, blank)
	if at < 0 {
		return s, ""
	}
	return s[:at], s[at:]
}

// The library reads more forms than one: what was read is right if it would be written so.

func (r *reader) number() int64 {
	word := r.argument()
	x, err := strconv.ParseInt(word, 10, 64)
	r.refuse(err != nil || numberText(x) != word, api.ErrLine)
	return x
}

func (r *reader) key() uint64 {
	word := r.argument()
	x, err := strconv.ParseUint(word, 10, 64)
	r.refuse(err != nil || keyText(x) != word, api.ErrLine)
	return x
}

func (r *reader) float() float64 {
	word := r.argument()
	bits, err := strconv.ParseUint(word, 16, 64)
	r.refuse(err != nil || floatText(bits) != word, api.ErrLine)
	return math.Float64frombits(bits)
}
