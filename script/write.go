package script

import (
	"math"
	"strconv"
	"strings"

	"reprise/api"
)

// floatDigits is how many digits a float has.
const floatDigits = 16

// refuses: why a step can't be written; ErrStep, ErrArg.
func refuses(s api.Step) api.Errno {
	f, known := formOf(s.Kind)
	if !known {
		return api.ErrStep
	}
	if !bareBut(f.gives, s) {
		return api.ErrArg
	}
	return api.OK
}

// bareBut: whether the fields that the line doesn't give are zero: it has no place for them.
func bareBut(gives int, s api.Step) bool {
	return (gives&givesNode != 0 || s.Node == 0) &&
		(gives&givesN != 0 || s.N == 0) &&
		(gives&givesKey != 0 || s.Rec.Key == 0) &&
		(gives&givesVal != 0 || math.Float64bits(s.Rec.Val) == 0)
}

func appendPlan(text []byte, p api.Plan) []byte {
	var arguments []string
	for _, field := range planFields(&p) {
		arguments = append(arguments, numberText(int64(*field)))
	}
	return appendLine(text, planWord, arguments...)
}

func appendOp(text []byte, o api.Op) []byte {
	return appendLine(text, opWord, numberText(int64(o.Kind)), numberText(o.N), floatText(math.Float64bits(o.X)))
}

// appendStep: a step that isn't refused.
func appendStep(text []byte, s api.Step) []byte {
	f, _ := formOf(s.Kind)
	var arguments []string
	if f.gives&givesNode != 0 {
		arguments = append(arguments, numberText(int64(s.Node)))
	}
	if f.gives&givesN != 0 {
		arguments = append(arguments, numberText(int64(s.N)))
	}
	if f.gives&givesKey != 0 {
		arguments = append(arguments, keyText(s.Rec.Key))
	}
	if f.gives&givesVal != 0 {
		arguments = append(arguments, floatText(math.Float64bits(s.Rec.Val)))
	}
	return appendLine(text, f.word, arguments...)
}

func appendLine(text []byte, word string, arguments ...string) []byte {
	text = append(text, word...)
	for _, argument := range arguments {
		text = append(text, blank)
		text = append(text, argument...)
	}
	return append(text, lineEnd...)
}

func numberText(x int64) string { return strconv.FormatInt(x, 10) }

func keyText(x uint64) string { return strconv.FormatUint(x, 10) }

// floatText: the digits of a float's bits.
func floatText(bits uint64) string {
	digits := strconv.FormatUint(bits, 16)
	return strings.Repeat("0", floatDigits-len(digits)) + digits
}
