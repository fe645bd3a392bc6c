package coord

import (
	"slices"
	"testing"

	"reprise/api"
	"reprise/disk"
)

// model is a coordinator as the chapter's words have it, and the disk under it.
type model struct {
	p     api.Plan
	note  api.Note
	gen   int
	row   []api.Try
	ended bool

	off    bool
	armed  bool
	more   int
	writes int
}

// save is what the journal makes of a note that follows.
func (m *model) save(n api.Note) api.Errno {
	switch {
	case n.Attempts > most:
		return api.ErrArg
	case m.gen == most:
		return api.ErrRoom
	case m.armed && m.more == 0:
		m.off, m.armed, m.ended = true, false, true
		return api.ErrDown
	}
	m.more--
	m.gen, m.note, m.writes = m.gen+1, n, m.writes+1
	return api.OK
}

func (m *model) isDown() bool {
	m.ended = m.ended || m.off
	return m.ended
}

// leave: so many tries of the row are left.
func (m *model) leave(count int) { m.row = slices.Clone(m.row[:count]) }

func (m *model) tick() ([]api.Msg, api.Errno) {
	if m.isDown() {
		return nil, api.ErrDown
	}
	for i := range m.row {
		if m.row[i].Phase != 2 {
			m.row[i].Ticks++
		}
	}
	for i, t := range m.row {
		if t.Ticks >= m.p.GiveUp {
			m.leave(i)
			break
		}
	}
	count, from := len(m.row), m.note.Done.Cur
	if count > 0 {
		from = m.row[count-1].To
	}
	// Where the last one's end isn't known, none can begin.
	if count >= m.p.Window || len(from) == 0 {
		return nil, api.OK
	}
	n := m.note
	n.Attempts++
	if e := m.save(n); e != api.OK {
		return m.none(e)
	}
	t := api.Try{Batch: n.Done.Batch + count + 1, Attempt: n.Attempts, Node: 1 + n.Attempts%m.p.Workers, Phase: 1, From: from}
	m.row = append(m.row, t)
	return []api.Msg{assign(t.Node, t.Batch, t.Attempt, from...)}, api.OK
}

// none: no message; of all errors the loss of power alone is told.
func (m *model) none(e api.Errno) ([]api.Msg, api.Errno) {
	if e != api.ErrDown {
		e = api.OK
	}
	return nil, e
}

// take is told of messages alone.
func (m *model) take(in api.Msg) ([]api.Msg, api.Errno) {
	if m.isDown() {
		return nil, api.ErrDown
	}
	if in.To != 0 {
		return nil, api.ErrNode
	}
	for i, t := range m.row {
		if t.Batch != in.Batch || t.Attempt != in.Attempt || t.Node != in.From {
			continue
		}
		switch {
		case in.Kind == 2 && t.Phase == 1:
			return m.takeReady(i, in.Ends), api.OK
		case in.Kind == 8 && t.Phase == 3 && i == 0 && slices.Equal(t.To, in.Ends):
			return m.takeDone()
		}
	}
	return nil, api.OK
}

func (m *model) takeReady(i int, ends []int) []api.Msg {
	t := &m.row[i]
	if len(ends) != m.p.Parts {
		return nil
	}
	read := 0
	for p := range ends {
		step := ends[p] - t.From[p]
		if step < 0 || step > m.p.Batch {
			return nil
		}
		read += step
	}
	if read == 0 {
		m.leave(i)
		return nil
	}
	t.To, t.Phase, t.Ticks = slices.Clone(ends), 2, 0
	return m.turn()
}

func (m *model) takeDone() ([]api.Msg, api.Errno) {
	n := note(m.note.Done.Batch+1, m.note.Done.Cur, m.row[0].To, m.note.Attempts)
	if e := m.save(n); e != api.OK {
		return m.none(e)
	}
	m.row = slices.Clone(m.row[1:])
	return m.turn(), api.OK
}

// turn: the first one's, if it is Ready.
func (m *model) turn() []api.Msg {
	if len(m.row) == 0 || m.row[0].Phase != 2 {
		return nil
	}
	t := &m.row[0]
	t.Phase, t.Ticks = 3, 0
	return []api.Msg{goes(t.Node, t.Batch, t.Attempt, t.To...)}
}

// pairing is a coordinator on a disk and the model beside it: each call goes to both, and what is told behind it too.
type pairing struct {
	c  *Coord
	on *disk.Disk
	model
}

// begun: a coordinator on a new journal.
func begun(t *testing.T, p api.Plan) *pairing {
	t.Helper()
	x := &pairing{on: formatted(t, p.Parts), model: model{p: p, gen: 1, note: first(p.Parts), writes: 2}}
	x.open(t)
	return x
}

// held: a coordinator on a journal with this note and generation.
func held(t *testing.T, p api.Plan, gen int, n api.Note) *pairing {
	t.Helper()
	x := &pairing{on: loaded(t, text(uint64(gen), n), nil), model: model{p: p, gen: gen, note: n}}
	x.open(t)
	return x
}

// open: the coordinator is opened anew, with a plan whose steps are written over behind it.
func (x *pairing) open(t *testing.T) {
	t.Helper()
	p := x.p
	p.Ops = roomy(x.p.Ops, fillOp())
	want := api.OK
	if x.off {
		want = api.ErrDown
	}
	c := wantOpen(t, p, x.on, want)
	wantRoomy(t, "Open", p.Ops, x.p.Ops, fillOp())
	spoil(p.Ops, fillOp())
	if c != nil {
		x.c, x.row, x.ended = c, nil, false
	}
	x.look(t, "Open")
}

// look holds all that is told, and the disk, to the model.
func (x *pairing) look(t *testing.T, what string) {
	t.Helper()
	wantState(t, x.c, x.note, x.row, x.isDown())
	if x.on.Down() != x.off || x.on.Writes() != x.writes {
		t.Errorf("Down() and Writes() are %t and %d, not %t and %d", x.on.Down(), x.on.Writes(), x.off, x.writes)
	}
	wantFound(t, x.on, x.p.Parts, x.note)
	if t.Failed() {
		t.Fatalf("behind %s", what)
	}
}

// compare holds an answer to the model's, writes over it, and looks whether that changes anything.
func (x *pairing) compare(t *testing.T, what string, got []api.Msg, e api.Errno, want []api.Msg, code api.Errno) ([]api.Msg, api.Errno) {
	t.Helper()
	if e != code || !sameMsgs(got, want) {
		t.Fatalf("%s is %v, %d, not %v, %d", what, got, e, want, code)
	}
	answer := cloned(got)
	spoilMsgs(got)
	x.look(t, what)
	return answer, e
}

func (x *pairing) tick(t *testing.T) ([]api.Msg, api.Errno) {
	t.Helper()
	want, code := x.model.tick()
	got, e := x.c.Tick()
	return x.compare(t, "Tick()", got, e, want, code)
}

// take hands a message in with spare room, and writes over it afterwards.
func (x *pairing) take(t *testing.T, m api.Msg) ([]api.Msg, api.Errno) {
	t.Helper()
	want, code := x.model.take(m)
	in := roomyMsg(m)
	got, e := x.c.Take(in)
	wantRoomy(t, "Take", in.Ends, m.Ends, filler)
	wantRoomy(t, "Take", in.Keys, m.Keys, filler)
	wantRoomy(t, "Take", in.Pairs, m.Pairs, fillPair())
	spoilMsgs([]api.Msg{in})
	return x.compare(t, "Take", got, e, want, code)
}

// ticks: a tick sends this.
func (x *pairing) ticks(t *testing.T, want ...api.Msg) {
	t.Helper()
	got, e := x.tick(t)
	wantSent(t, "Tick()", got, e, want...)
}

// idle: so many ticks send nothing.
func (x *pairing) idle(t *testing.T, count int) {
	t.Helper()
	for range count {
		x.ticks(t)
	}
}

// sends: a message makes the coordinator send this.
func (x *pairing) sends(t *testing.T, m api.Msg, want ...api.Msg) {
	t.Helper()
	got, e := x.take(t, m)
	wantSent(t, "Take", got, e, want...)
}

// ignores: nothing comes of these, and nothing changes.
func (x *pairing) ignores(t *testing.T, list ...api.Msg) {
	t.Helper()
	for _, m := range list {
		n, tries, writes := x.c.Note(), x.c.Tries(), x.on.Writes()
		x.sends(t, m)
		if !sameNote(x.c.Note(), n) || !sameTries(x.c.Tries(), tries) || x.on.Writes() != writes {
			t.Fatalf("Take(%v) has changed %v, %v to %v, %v", m, n, tries, x.c.Note(), x.c.Tries())
		}
	}
}

// arm: so many more writes go through.
func (x *pairing) arm(n int) {
	x.armed, x.more = n >= 0, n
	x.on.Cut(n)
}

func (x *pairing) power(on bool) {
	x.off, x.armed = !on, false
	if on {
		x.on.On()
	} else {
		x.on.Off()
	}
}

// wantTries: the tries are these.
func (x *pairing) wantTries(t *testing.T, want ...api.Try) {
	t.Helper()
	if got := x.c.Tries(); !sameTries(got, want) {
		t.Fatalf("Tries() is %v, not %v", got, want)
	}
}

// wantNote: the note is this one, on the disk too.
func (x *pairing) wantNote(t *testing.T, want api.Note) {
	t.Helper()
	if got := x.c.Note(); !sameNote(got, want) {
		t.Fatalf("Note() is %v, not %v", got, want)
	}
	wantFound(t, x.on, x.p.Parts, want)
}

// begin: a tick that begins an attempt, which is answered.
func (x *pairing) begin(t *testing.T) api.Try {
	t.Helper()
	if list, e := x.tick(t); len(list) != 1 || e != api.OK {
		t.Fatalf("Tick() is %v, %d, and begins nothing", list, e)
	}
	list := x.c.Tries()
	return list[len(list)-1]
}

// waiting: a new attempt that has read so many records of each partition.
func (x *pairing) waiting(t *testing.T, step int) api.Try {
	t.Helper()
	last := x.begin(t)
	ends := slices.Clone(last.From)
	for i := range ends {
		ends[i] += step
	}
	if _, e := x.take(t, readyOf(last, ends...)); e != api.OK {
		t.Fatalf("Take is %d", e)
	}
	list := x.c.Tries()
	return list[len(list)-1]
}
