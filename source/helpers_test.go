package source

import (
	"math"
	"slices"
	"testing"

	"reprise/api"
	"reprise/ops"
)

var (
	minusNought = math.Copysign(0, -1)
	plusInf     = math.Inf(1)
	minusInf    = math.Inf(-1)
)

const last = math.MaxUint64

func float(bits uint64) float64 { return math.Float64frombits(bits) }

func rec(key uint64, x float64) api.Record { return api.Record{Key: key, Val: x} }

func sameRecord(a api.Record, b api.Record) bool {
	return a.Key == b.Key && math.Float64bits(a.Val) == math.Float64bits(b.Val)
}

func sameRecords(a []api.Record, b []api.Record) bool { return slices.EqualFunc(a, b, sameRecord) }

func sameOp(a api.Op, b api.Op) bool {
	return a.Kind == b.Kind && a.N == b.N && math.Float64bits(a.X) == math.Float64bits(b.X)
}

// pipelines keep all, drop some, trap some, and turn keys.
func pipelines() [][]api.Op {
	return [][]api.Op{
		nil,
		{},
		{{Kind: api.OpLess, X: 5}, {Kind: api.OpRegroup, N: 3}},
		{{Kind: api.OpReal}, {Kind: api.OpInverse}, {Kind: api.OpNeed}},
		{{Kind: api.OpPer, N: 100}, {Kind: api.OpSide}},
		{{Kind: api.OpMore, X: math.NaN()}},
		slices.Repeat([]api.Op{{Kind: api.OpNeg}}, 8),
	}
}

// noPipelines has a step that is none by its kind or by its N, at the beginning or at the end, and too many steps.
func noPipelines() [][]api.Op {
	return [][]api.Op{
		{{}},
		{{Kind: 13}},
		{{Kind: -1}},
		{{Kind: api.OpScale, N: 2201}},
		{{Kind: api.OpRegroup}},
		{{Kind: api.OpLess, X: minusInf}, {Kind: math.MaxInt}},
		slices.Repeat([]api.Op{{Kind: api.OpNeg}}, 9),
	}
}

// noCounts has numbers that no source has as its partitions' number, what would be one if it were cut among them.
func noCounts() []int {
	return []int{0, -1, -4, 5, 6, 256, 256 + 1, 1<<16 + 2, 1<<32 + 3, math.MaxInt, math.MaxInt - 1, math.MinInt, math.MinInt + 1}
}

// noParts has numbers that are no partition's in a source of so many, what would be one if it were cut among them.
func noParts(parts int) []int {
	return []int{-1, -parts, parts, parts + 1, 256, 1 << 16, 1 << 32, math.MaxInt, math.MinInt}
}

// model is a source without a map: what it answers is reckoned anew out of all records each time.
type model struct {
	list []api.Op
	logs [][]api.Record
	off  []bool
}

func newModel(parts int, list []api.Op) *model {
	return &model{list: list, logs: make([][]api.Record, parts), off: make([]bool, parts)}
}

func (m *model) has(p int) bool { return slices.Contains([]int{0, 1, 2, 3}[:len(m.logs)], p) }

func (m *model) allKeys() []uint64 {
	var keys []uint64
	for _, log := range m.logs {
		for _, r := range log {
			if key, kept := ops.Key(m.list, r); kept {
				keys = append(keys, key)
			}
		}
	}
	slices.Sort(keys)
	return slices.Compact(keys)
}

func (m *model) produce(p int, r api.Record) api.Errno {
	if !m.has(p) {
		return api.ErrPart
	}
	if len(m.logs[p]) == 256 {
		return api.ErrFull
	}
	key, kept := ops.Key(m.list, r)
	if keys := m.allKeys(); kept && len(keys) == 64 && !slices.Contains(keys, key) {
		return api.ErrKeys
	}
	m.logs[p] = append(m.logs[p], r)
	return api.OK
}

func (m *model) set(p int, on bool) api.Errno {
	if !m.has(p) {
		return api.ErrPart
	}
	m.off[p] = !on
	return api.OK
}

func (m *model) read(p int, from int, most int) ([]api.Record, api.Errno) {
	if !m.has(p) {
		return nil, api.ErrPart
	}
	if from < 0 || from > len(m.logs[p]) || most < 0 {
		return nil, api.ErrArg
	}
	if m.off[p] {
		return nil, api.ErrGone
	}
	var recs []api.Record
	for i, r := range m.logs[p] {
		if i >= from && i-from < most {
			recs = append(recs, r)
		}
	}
	return recs, api.OK
}

// roomy: a list with the same elements and with spare room that holds something.
func roomy[E any](list []E, spare E) []E {
	all := append(slices.Clone(list), slices.Repeat([]E{spare}, 5)...)
	return all[:len(list)]
}

// spoil writes over a list and over its spare room.
func spoil[E any](list []E, with E) {
	list = list[:cap(list)]
	for i := range list {
		list[i] = with
	}
}

func wantNew(t *testing.T, parts int, list []api.Op) *Source {
	t.Helper()
	s, e := New(parts, list)
	if s == nil || e != api.OK {
		t.Fatalf("New(%d, %v) is %v, %d", parts, list, s, e)
	}
	return s
}

func wantNoNew(t *testing.T, parts int, list []api.Op, want api.Errno) {
	t.Helper()
	if s, e := New(parts, list); s != nil || e != want {
		t.Errorf("New(%d, %v) is %v, %d, not the error %d", parts, list, s, e, want)
	}
}

func wantProduce(t *testing.T, s *Source, p int, r api.Record, want api.Errno) {
	t.Helper()
	if e := s.Produce(p, r); e != want {
		t.Errorf("Produce(%d, %v) is %d, not %d", p, r, e, want)
	}
}

func wantSwitch(t *testing.T, s *Source, p int, on bool, want api.Errno) {
	t.Helper()
	if e := s.Switch(p, on); e != want {
		t.Errorf("Switch(%d, %t) is %d, not %d", p, on, e, want)
	}
}

func wantUp(t *testing.T, s *Source, p int, want bool) {
	t.Helper()
	if up := s.Up(p); up != want {
		t.Errorf("Up(%d) is %t", p, up)
	}
}

func wantLen(t *testing.T, s *Source, p int, want int) {
	t.Helper()
	if n := s.Len(p); n != want {
		t.Errorf("Len(%d) is %d, not %d", p, n, want)
	}
}

func wantRead(t *testing.T, s *Source, p int, from int, most int, want []api.Record) {
	t.Helper()
	if recs, e := s.Read(p, from, most); !sameRecords(recs, want) || e != api.OK {
		t.Errorf("Read(%d, %d, %d) is %v, %d, not %v", p, from, most, recs, e, want)
	}
}

func wantNoRead(t *testing.T, s *Source, p int, from int, most int, want api.Errno) {
	t.Helper()
	if recs, e := s.Read(p, from, most); len(recs) != 0 || e != want {
		t.Errorf("Read(%d, %d, %d) is %v, %d, not the error %d", p, from, most, recs, e, want)
	}
}

func wantLog(t *testing.T, s *Source, p int, want []api.Record) {
	t.Helper()
	if recs := s.Log(p); !sameRecords(recs, want) {
		t.Errorf("Log(%d) is %v, not %v", p, recs, want)
	}
}

func wantKeys(t *testing.T, s *Source, want []uint64) {
	t.Helper()
	if keys := s.Keys(); !slices.Equal(keys, want) {
		t.Errorf("Keys() is %v, not %v", keys, want)
	}
}

// wantState holds all that a source tells of itself to what the model says.
func wantState(t *testing.T, s *Source, m *model) {
	t.Helper()
	if n := s.Parts(); n != len(m.logs) {
		t.Errorf("Parts() is %d, not %d", n, len(m.logs))
	}
	for p, log := range m.logs {
		wantUp(t, s, p, !m.off[p])
		wantLen(t, s, p, len(log))
		wantLog(t, s, p, log)
		recs, code := m.read(p, 0, math.MaxInt)
		if code == api.OK {
			wantRead(t, s, p, 0, math.MaxInt, recs)
		} else {
			wantNoRead(t, s, p, 0, math.MaxInt, code)
		}
	}
	for _, p := range noParts(len(m.logs)) {
		wantUp(t, s, p, false)
		wantLen(t, s, p, 0)
		wantLog(t, s, p, nil)
		wantNoRead(t, s, p, 0, math.MaxInt, api.ErrPart)
	}
	wantKeys(t, s, m.allKeys())
}

// pairing is a source and the model beside it: each call goes to both.
type pairing struct {
	*Source
	*model
}

func newPairing(t *testing.T, parts int, list []api.Op) pairing {
	t.Helper()
	return pairing{wantNew(t, parts, list), newModel(parts, slices.Clone(list))}
}

// put produces a record in both; want is told beside the model, so that this one is held to the document too.
func (b pairing) put(t *testing.T, p int, r api.Record, want api.Errno) {
	t.Helper()
	if e := b.produce(p, r); e != want {
		t.Fatalf("the model's produce(%d, %v) is %d, not %d", p, r, e, want)
	}
	wantProduce(t, b.Source, p, r, want)
}

func (b pairing) turn(t *testing.T, p int, on bool) {
	t.Helper()
	wantSwitch(t, b.Source, p, on, b.set(p, on))
}

func (b pairing) hold(t *testing.T) {
	t.Helper()
	wantState(t, b.Source, b.model)
}
