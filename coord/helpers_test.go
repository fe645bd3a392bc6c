package coord

import (
	"encoding/binary"
	"math"
	"slices"
	"testing"

	"reprise/api"
	"reprise/disk"
	"reprise/journal"
	"reprise/msg"
)

const (
	// most is the greatest number of a batch, of an attempt and of a generation.
	most = 1 << 40
	// filler is what stands in the spare room of lists that are handed in, room how much of it there is.
	filler = 33
	room   = 5
)

// small: the examples' plan.
func small() api.Plan {
	return api.Plan{Parts: 1, Stores: 1, Workers: 2, Agg: api.AggCount, Batch: 4, Window: 2, GiveUp: 8}
}

// wide: a plan of one partition and one worker with so many batches under way.
func wide(window int) api.Plan {
	p := small()
	p.Workers, p.Window = 1, window
	return p
}

// broad: a plan of so many partitions.
func broad(parts int) api.Plan {
	return api.Plan{
		Parts: parts, Stores: 2, Workers: 3, Ops: []api.Op{{Kind: api.OpNeed}, {Kind: api.OpLess, X: 100}},
		Agg: api.AggSum, Batch: 3, Window: 3, GiveUp: 20,
	}
}

// field: one of a plan's numbers, with the least and the greatest that it may be.
type field struct {
	at    func(p *api.Plan) *int
	least int
	most  int
}

func fields() []field {
	return []field{
		{func(p *api.Plan) *int { return &p.Parts }, 1, 4},
		{func(p *api.Plan) *int { return &p.Stores }, 1, 4},
		{func(p *api.Plan) *int { return &p.Workers }, 1, 4},
		{func(p *api.Plan) *int { return &p.Agg }, 1, 4},
		{func(p *api.Plan) *int { return &p.Batch }, 1, 16},
		{func(p *api.Plan) *int { return &p.Window }, 1, 4},
		{func(p *api.Plan) *int { return &p.GiveUp }, 8, 64},
	}
}

// numbersAtFault: the examples' plan with one of its numbers at fault.
func numbersAtFault() []api.Plan {
	list := []api.Plan{{}}
	for _, f := range fields() {
		for _, x := range []int{f.least - 1, f.most + 1, -1, 256 + f.least, 1<<32 + f.least, math.MinInt, math.MaxInt} {
			p := small()
			*f.at(&p) = x
			list = append(list, p)
		}
	}
	return list
}

// stepsAtFault: the examples' plan with steps that are no pipeline.
func stepsAtFault() []api.Plan {
	list := []api.Plan{}
	for _, steps := range [][]api.Op{
		slices.Repeat([]api.Op{{Kind: api.OpNeg}}, 9), {{}}, {{Kind: 13}}, {{Kind: -1}}, {{Kind: api.OpNeg}, {Kind: math.MaxInt}},
		{{Kind: api.OpScale, N: 2201}}, {{Kind: api.OpScale, N: -2201}}, {{Kind: api.OpRegroup}}, {{Kind: api.OpNeg}, {Kind: api.OpRegroup, N: -1}},
	} {
		p := small()
		p.Ops = steps
		list = append(list, p)
	}
	return list
}

func note(batch int, prev []int, cur []int, attempts int) api.Note {
	return api.Note{Done: api.Triple{Batch: batch, Prev: prev, Cur: cur}, Attempts: attempts}
}

// one: a note of one partition.
func one(batch int, prev int, cur int, attempts int) api.Note {
	return note(batch, []int{prev}, []int{cur}, attempts)
}

// first: the note of a new journal.
func first(parts int) api.Note { return note(0, make([]int, parts), make([]int, parts), 0) }

func sameNote(a api.Note, b api.Note) bool {
	return a.Attempts == b.Attempts && a.Done.Batch == b.Done.Batch &&
		slices.Equal(a.Done.Prev, b.Done.Prev) && slices.Equal(a.Done.Cur, b.Done.Cur)
}

// ofEnds: a message to the coordinator.
func ofEnds(kind int, from int, batch int, attempt int, ends ...int) api.Msg {
	return api.Msg{Kind: kind, From: from, Batch: batch, Attempt: attempt, Ends: ends}
}

func ready(from int, batch int, attempt int, ends ...int) api.Msg {
	return ofEnds(api.MsgReady, from, batch, attempt, ends...)
}

func done(from int, batch int, attempt int, ends ...int) api.Msg {
	return ofEnds(api.MsgDone, from, batch, attempt, ends...)
}

// assign, goes: what the coordinator sends.
func assign(to int, batch int, attempt int, ends ...int) api.Msg {
	return api.Msg{Kind: api.MsgAssign, To: to, Batch: batch, Attempt: attempt, Ends: ends}
}

func goes(to int, batch int, attempt int, ends ...int) api.Msg {
	return api.Msg{Kind: api.MsgGo, To: to, Batch: batch, Attempt: attempt, Ends: ends}
}

// toWho: the message with another To.
func toWho(m api.Msg, to int) api.Msg {
	m.To = to
	return m
}

// readyOf, doneOf: what a try's worker says of it.
func readyOf(t api.Try, ends ...int) api.Msg { return ready(t.Node, t.Batch, t.Attempt, ends...) }

func doneOf(t api.Try) api.Msg { return done(t.Node, t.Batch, t.Attempt, t.To...) }

// wrongs: what is no message, whoever it is to; some of it near what the coordinator of the examples waits for.
func wrongs() []api.Msg {
	list := []api.Msg{
		{}, {Kind: api.MsgReady}, ofEnds(0, 2, 1, 1, 4), ofEnds(9, 2, 1, 1, 4), ofEnds(-1, 2, 1, 1, 4), ofEnds(math.MaxInt, 2, 1, 1, 4), ofEnds(256+2, 2, 1, 1, 4),
		ready(2, 1, 1), ready(2, 1, 1, 4, 0, 0, 0, 0), ready(2, 1, 1, -1), ready(2, 1, 1, 257), ready(2, 1, 1, math.MinInt), done(2, 1, 1), done(2, 1, 1, math.MaxInt),
		ready(2, 0, 1, 4), ready(2, -1, 1, 4), ready(2, most+1, 1, 4), ready(2, 1, 0, 4), ready(2, 1, -1, 4), ready(2, 1, most+1, 4), done(2, math.MaxInt, math.MinInt, 4),
		ready(-1, 1, 1, 4), ready(9, 1, 1, 4), done(9, 1, 1, 4), done(math.MinInt, 1, 1, 4), toWho(ready(2, 1, 1, 4), -1), toWho(ready(2, 1, 1, 4), 9), toWho(done(2, 1, 1, 4), math.MaxInt),
		{Kind: api.MsgBegan, From: 2, Batch: 1, Attempt: 1, Code: 1001}, {Kind: api.MsgApplied, From: 2, Batch: 1, Attempt: 1, Code: -1},
		{Kind: api.MsgBegin, From: 2, Batch: 1, Attempt: 1, Keys: []uint64{2, 1}}, {Kind: api.MsgApply, From: 2, Batch: 1, Attempt: 1, Pairs: []api.Pair{{Key: 1}}},
	}
	coded, keyed, paired := ready(2, 1, 1, 4), ready(2, 1, 1, 4), done(2, 1, 1, 4)
	coded.Code, keyed.Keys, paired.Pairs = 1, []uint64{1}, []api.Pair{{Key: 1, Val: api.Value{Has: true}}}
	return append(list, coded, keyed, paired)
}

// others: messages of each kind that the coordinator makes nothing of, about this batch and attempt.
func others(from int, batch int, attempt int, ends ...int) []api.Msg {
	list := []api.Msg{ofEnds(api.MsgAssign, from, batch, attempt, ends...), ofEnds(api.MsgGo, from, batch, attempt, ends...)}
	for _, kind := range []int{api.MsgBegin, api.MsgBegan, api.MsgApply, api.MsgApplied} {
		list = append(list, api.Msg{Kind: kind, From: from, Batch: batch, Attempt: attempt})
	}
	keyed, coded, paired := list[2], list[3], list[4]
	keyed.Keys, coded.Code, paired.Pairs = []uint64{1, 9}, 130, []api.Pair{{Key: 1, Val: api.Value{Has: true, Bits: 3}}}
	return append(list, keyed, coded, paired)
}

func sameMsg(a api.Msg, b api.Msg) bool {
	return a.Kind == b.Kind && a.From == b.From && a.To == b.To && a.Batch == b.Batch && a.Attempt == b.Attempt && a.Code == b.Code &&
		slices.Equal(a.Ends, b.Ends) && slices.Equal(a.Keys, b.Keys) && slices.Equal(a.Pairs, b.Pairs)
}

func sameMsgs(a []api.Msg, b []api.Msg) bool { return slices.EqualFunc(a, b, sameMsg) }

func sameTries(a []api.Try, b []api.Try) bool {
	return slices.EqualFunc(a, b, func(x api.Try, y api.Try) bool {
		return x.Batch == y.Batch && x.Attempt == y.Attempt && x.Node == y.Node && x.Phase == y.Phase && x.Ticks == y.Ticks &&
			slices.Equal(x.From, y.From) && slices.Equal(x.To, y.To)
	})
}

// roomy is a list with spare room behind it that is filled.
func roomy[E any](list []E, with E) []E {
	return append(slices.Clone(list), slices.Repeat([]E{with}, room)...)[:len(list)]
}

func fillOp() api.Op { return api.Op{Kind: api.OpNeg, N: 7} }

func fillPair() api.Pair { return api.Pair{Key: filler, Val: api.Value{Has: true, Bits: 9}} }

func roomyMsg(m api.Msg) api.Msg {
	m.Ends, m.Keys, m.Pairs = roomy(m.Ends, filler), roomy(m.Keys, filler), roomy(m.Pairs, fillPair())
	return m
}

// wantRoomy tells if a list, or the spare room behind it, isn't what roomy made of old.
func wantRoomy[E comparable](t *testing.T, what string, list []E, old []E, with E) {
	t.Helper()
	if !slices.Equal(list, old) || !slices.Equal(list[len(list):len(list)+room], slices.Repeat([]E{with}, room)) {
		t.Errorf("%s: what was handed in has become %v", what, list[:len(list)+room])
	}
}

// spoil writes over a list and over its spare room, and grows it.
func spoil[E any](list []E, with E) {
	whole := list[:cap(list)]
	for i := range whole {
		whole[i] = with
	}
	_ = append(list, with)
}

func spoilMsgs(list []api.Msg) {
	for _, m := range list {
		spoil(m.Ends, filler)
		spoil(m.Keys, filler)
		spoil(m.Pairs, fillPair())
	}
	spoil(list, ready(7, 99, 99, filler))
}

func spoilTries(list []api.Try) {
	for _, t := range list {
		spoil(t.From, filler)
		spoil(t.To, filler)
	}
	spoil(list, api.Try{Batch: 99, Attempt: 99, Node: 7, Phase: 9, Ticks: 99})
}

func spoilNote(n api.Note) {
	spoil(n.Done.Prev, filler)
	spoil(n.Done.Cur, filler)
}

// cloned: the messages of an answer in memory of the test's own.
func cloned(list []api.Msg) []api.Msg {
	out := []api.Msg{}
	for _, m := range list {
		m.Ends = slices.Clone(m.Ends)
		out = append(out, m)
	}
	return out
}

// text: a note's bytes with this generation.
func text(gen uint64, n api.Note) []byte {
	b := []byte{}
	for _, x := range []uint64{gen, uint64(n.Done.Batch), uint64(n.Attempts)} {
		b = binary.AppendUvarint(b, x)
	}
	for _, list := range [][]int{n.Done.Prev, n.Done.Cur} {
		b = binary.AppendUvarint(b, uint64(len(list)))
		for _, x := range list {
			b = binary.AppendUvarint(b, uint64(x))
		}
	}
	return b
}

func loaded(t *testing.T, image ...[]byte) *disk.Disk {
	t.Helper()
	d, e := disk.Load(image)
	if e != api.OK {
		t.Fatalf("Load of %d blocks is %d", len(image), e)
	}
	return d
}

// formatted: a disk with a new journal.
func formatted(t *testing.T, parts int) *disk.Disk {
	t.Helper()
	d := loaded(t, nil, nil)
	if _, e := journal.Format(d, parts); e != api.OK {
		t.Fatalf("Format(%d) is %d", parts, e)
	}
	return d
}

// wantOpen: what Open answers, without a coordinator beside an error. It holds the disk to having been read at most.
func wantOpen(t *testing.T, p api.Plan, d *disk.Disk, want api.Errno) *Coord {
	t.Helper()
	was, writes, down := d.Image(), d.Writes(), d.Down()
	c, e := Open(p, d)
	if e != want || (c != nil) != (want == api.OK) {
		t.Fatalf("Open(%v) of %q is %v, %d, not %d", p, was, c, e, want)
	}
	if d.Writes() != writes || d.Down() != down || !slices.EqualFunc(d.Image(), was, slices.Equal) {
		t.Errorf("Open(%v) of %q has written or changed the power", p, was)
	}
	return c
}

// wantFound: which note is found on a disk that is made of the image.
func wantFound(t *testing.T, d *disk.Disk, parts int, want api.Note) {
	t.Helper()
	j, e := journal.Open(loaded(t, d.Image()...), parts)
	if e != api.OK || !sameNote(j.Note(), want) {
		t.Errorf("on the disk is %v, %d, not %v", j.Note(), e, want)
	}
}

// wantState holds all that is told to these, twice, the first answers written over.
func wantState(t *testing.T, c *Coord, n api.Note, tries []api.Try, ended bool) {
	t.Helper()
	for range 2 {
		gotNote, gotTries := c.Note(), c.Tries()
		if !sameNote(gotNote, n) {
			t.Errorf("Note() is %v, not %v", gotNote, n)
		}
		if !sameTries(gotTries, tries) {
			t.Errorf("Tries() is %v, not %v", gotTries, tries)
		}
		spoilNote(gotNote)
		spoilTries(gotTries)
	}
	if c.Ended() != ended {
		t.Errorf("Ended() is %t", !ended)
	}
}

// wantSent: an answer is OK, and has these messages, each of which is one.
func wantSent(t *testing.T, what string, got []api.Msg, e api.Errno, want ...api.Msg) {
	t.Helper()
	if e != api.OK || !sameMsgs(got, want) {
		t.Fatalf("%s is %v, %d, not %v", what, got, e, want)
	}
	for _, m := range got {
		if !msg.Sound(m) {
			t.Errorf("%s sends %v, which is no message", what, m)
		}
	}
}
