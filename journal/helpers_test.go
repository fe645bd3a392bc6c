package journal

import (
	"encoding/binary"
	"math"
	"slices"
	"testing"

	"reprise/api"
	"reprise/disk"
)

const (
	// most is the greatest generation, and the greatest number of a batch and of an attempt.
	most = 1 << 40
	// farthest is the farthest end.
	farthest = 256
	// filler is what stands in the spare room of lists that are handed in, room how much of it there is.
	filler = 33
	room   = 5
)

// noParts has numbers of partitions that no journal has, what would be one if it were cut among them.
func noParts() []int {
	return []int{0, -1, -2, -4, 5, 6, 8, 64, 256 + 1, 1<<16 + 2, 1<<32 + 3, math.MaxInt, math.MaxInt - 1, math.MinInt, math.MinInt + 1}
}

// note: the note of these.
func note(batch int, prev []int, cur []int, attempts int) api.Note {
	return api.Note{Done: api.Triple{Batch: batch, Prev: prev, Cur: cur}, Attempts: attempts}
}

// one: a note of one partition.
func one(batch int, prev int, cur int, attempts int) api.Note {
	return note(batch, []int{prev}, []int{cur}, attempts)
}

// all: the same end in each of so many partitions.
func all(parts int, end int) []int { return slices.Repeat([]int{end}, parts) }

// even: a note with the same ends in each partition.
func even(parts int, batch int, prev int, cur int, attempts int) api.Note {
	return note(batch, all(parts, prev), all(parts, cur), attempts)
}

// twin: the same note in other memory.
func twin(n api.Note) api.Note {
	return note(n.Done.Batch, slices.Clone(n.Done.Prev), slices.Clone(n.Done.Cur), n.Attempts)
}

func same(a api.Note, b api.Note) bool {
	return a.Attempts == b.Attempts && a.Done.Batch == b.Done.Batch &&
		slices.Equal(a.Done.Prev, b.Done.Prev) && slices.Equal(a.Done.Cur, b.Done.Cur)
}

// textOf: a note's bytes with this generation. Other numbers than a note's are written too.
func textOf(gen uint64, n api.Note) string {
	return rawText(gen, uint64(n.Done.Batch), uint64(n.Attempts), n.Done.Prev, n.Done.Cur)
}

func rawText(gen uint64, batch uint64, attempts uint64, lists ...[]int) string {
	var b []byte
	for _, x := range []uint64{gen, batch, attempts} {
		b = binary.AppendUvarint(b, x)
	}
	for _, list := range lists {
		b = binary.AppendUvarint(b, uint64(len(list)))
		for _, x := range list {
			b = binary.AppendUvarint(b, uint64(x))
		}
	}
	return string(b)
}

// numbers: all numbers that a text is made of, whatever their form; false, if it ends within one.
func numbers(text string) ([]uint64, bool) {
	var list []uint64
	for b := []byte(text); len(b) > 0; {
		x, n := binary.Uvarint(b)
		if n <= 0 {
			return nil, false
		}
		list, b = append(list, x), b[n:]
	}
	return list, true
}

// told: the generation and the note that a text is, if it is right for so many partitions. It writes
// what it has read anew, and sees whether it is the same: so it needs nothing to know of the forms.
func told(text string, parts int) (int, api.Note, bool) {
	list, whole := numbers(text)
	if !whole || len(list) != 5+2*parts {
		return 0, api.Note{}, false
	}
	for _, x := range list {
		if x > most {
			return 0, api.Note{}, false
		}
	}
	var prev, cur []int
	for i := range parts {
		prev, cur = append(prev, int(list[4+i])), append(cur, int(list[5+parts+i]))
	}
	n := note(int(list[1]), prev, cur, int(list[2]))
	if list[0] < 1 || !fits(n, parts) || textOf(list[0], n) != text {
		return 0, api.Note{}, false
	}
	return int(list[0]), n, true
}

// fits: whether a note is right, said apart from how the package says it.
func fits(n api.Note, parts int) bool {
	t := n.Done
	if len(t.Prev) != parts || len(t.Cur) != parts {
		return false
	}
	for i := range parts {
		if !(0 <= t.Prev[i] && t.Prev[i] <= t.Cur[i] && t.Cur[i] <= farthest) {
			return false
		}
		if t.Batch == 0 && t.Cur[i] > 0 {
			return false
		}
	}
	return 0 <= t.Batch && t.Batch <= most && 0 <= n.Attempts && n.Attempts <= most
}

// behind: whether n follows held.
func behind(n api.Note, held api.Note) bool {
	stays := n
	stays.Attempts = held.Attempts
	goesOn := n.Done.Batch-held.Done.Batch == 1 && slices.Equal(n.Done.Prev, held.Done.Cur)
	return n.Attempts >= held.Attempts && (same(stays, held) || goesOn)
}

// model is a disk and the journal on it; it keeps texts, which nobody can write over.
type model struct {
	image  []string
	off    bool
	armed  bool
	more   int
	writes int

	parts int
	gen   int
	held  api.Note
	home  int
	ended bool
}

func (m *model) write(i int, text string) bool {
	if m.off || m.armed && m.more == 0 {
		m.off, m.armed = true, false
		return false
	}
	m.more--
	m.image[i] = text
	m.writes++
	return true
}

func (m *model) cut(n int) { m.armed, m.more = n >= 0, n }

func (m *model) power(on bool) { m.off, m.armed = !on, false }

func (m *model) format(parts int) api.Errno {
	if parts < 1 || parts > 4 {
		return api.ErrArg
	}
	if len(m.image) < 2 {
		return api.ErrRoom
	}
	first := even(parts, 0, 0, 0, 0)
	if !m.write(1, "") || !m.write(0, textOf(1, first)) {
		return api.ErrDown
	}
	m.parts, m.gen, m.held, m.home, m.ended = parts, 1, first, 0, false
	return api.OK
}

func (m *model) open(parts int) api.Errno {
	if parts < 1 || parts > 4 {
		return api.ErrArg
	}
	if m.off {
		return api.ErrDown
	}
	zero, zeroNote, right0 := told(m.image[0], parts)
	var other int
	var otherNote api.Note
	right1 := false
	if len(m.image) > 1 {
		other, otherNote, right1 = told(m.image[1], parts)
	}
	if !right0 && !right1 {
		return api.ErrJournal
	}
	m.parts, m.gen, m.held, m.home, m.ended = parts, zero, zeroNote, 0, false
	if !right0 || right1 && other > zero {
		m.gen, m.held, m.home = other, otherNote, 1
	}
	return api.OK
}

func (m *model) save(n api.Note) api.Errno {
	m.ended = m.ended || m.off
	switch {
	case m.ended:
		return api.ErrDown
	case !fits(n, m.parts):
		return api.ErrArg
	case !behind(n, m.held):
		return api.ErrOrder
	case m.gen == most:
		return api.ErrRoom
	case !m.write(1-m.home, textOf(uint64(m.gen)+1, n)):
		m.ended = true
		return api.ErrDown
	}
	m.gen, m.held, m.home = m.gen+1, twin(n), 1-m.home
	return api.OK
}

// roomy: a list with the same numbers and with spare room that holds something.
func roomy(list []int) []int {
	return append(slices.Clone(list), all(room, filler)...)[:len(list)]
}

// roomyNote: the note as it is handed in, with spare room behind each of its lists.
func roomyNote(n api.Note) api.Note {
	return note(n.Done.Batch, roomy(n.Done.Prev), roomy(n.Done.Cur), n.Attempts)
}

// wholeRoom: the note with all that stands in its lists, in their spare room too.
func wholeRoom(n api.Note) api.Note {
	prev, cur := n.Done.Prev, n.Done.Cur
	return twin(note(n.Done.Batch, prev[:cap(prev)], cur[:cap(cur)], n.Attempts))
}

// spoil writes over a note's lists and over their spare room, and grows them.
func spoil(n api.Note) {
	for _, list := range [][]int{n.Done.Prev, n.Done.Cur} {
		list = list[:cap(list)]
		for i := range list {
			list[i] = -7
		}
		_ = append(list[:0], all(cap(list), -8)...)
	}
}

// wantSave hands a note in with spare room, and writes over it afterwards.
func wantSave(t *testing.T, j *Journal, n api.Note, want api.Errno) {
	t.Helper()
	in := roomyNote(n)
	was := wholeRoom(in)
	if e := j.Save(in); e != want {
		t.Errorf("Save(%v) is %d, not %d", n, e, want)
	}
	if !same(wholeRoom(in), was) {
		t.Errorf("Save(%v) has changed its lists or their spare room: %v", n, wholeRoom(in))
	}
	spoil(in)
}

// wantNote asks twice, and writes over the first answer ahead of the second.
func wantNote(t *testing.T, j *Journal, want api.Note) {
	t.Helper()
	for range 2 {
		got := j.Note()
		if !same(got, want) {
			t.Errorf("Note() is %v, not %v", got, want)
		}
		spoil(got)
	}
}

func wantEnded(t *testing.T, j *Journal, want bool) {
	t.Helper()
	if ended := j.Ended(); ended != want {
		t.Errorf("Ended() is %t", ended)
	}
}

func imageOf(d *disk.Disk) []string {
	var list []string
	for _, block := range d.Image() {
		list = append(list, string(block))
	}
	return list
}

func wantImage(t *testing.T, d *disk.Disk, want ...string) {
	t.Helper()
	if got := imageOf(d); !slices.Equal(got, want) {
		t.Errorf("the disk is %q, not %q", got, want)
	}
}

func loaded(t *testing.T, image ...string) *disk.Disk {
	t.Helper()
	var blocks [][]byte
	for _, text := range image {
		blocks = append(blocks, []byte(text))
	}
	d, e := disk.Load(blocks)
	if e != api.OK {
		t.Fatalf("Load of %d blocks is %d", len(image), e)
	}
	return d
}

// named: so many texts, each another one.
func named(count int) []string {
	var list []string
	for i := range count {
		list = append(list, "block "+string(rune('A'+i)))
	}
	return list
}

// wantFormat: what Format answers, without a journal beside an error.
func wantFormat(t *testing.T, d *disk.Disk, parts int, want api.Errno) *Journal {
	t.Helper()
	j, e := Format(d, parts)
	if e != want || (j != nil) != (want == api.OK) {
		t.Fatalf("Format(%d) is %v, %d, not %d", parts, j, e, want)
	}
	return j
}

// wantOpen: what Open answers, without a journal beside an error. It holds the disk to having been read at most.
func wantOpen(t *testing.T, d *disk.Disk, parts int, want api.Errno) *Journal {
	t.Helper()
	was, writes, down := imageOf(d), d.Writes(), d.Down()
	j, e := Open(d, parts)
	if e != want || (j != nil) != (want == api.OK) {
		t.Fatalf("Open(%d) of %q is %v, %d, not %d", parts, was, j, e, want)
	}
	if d.Writes() != writes || d.Down() != down {
		t.Errorf("Open(%d) of %q has written or changed the power", parts, was)
	}
	wantImage(t, d, was...)
	return j
}

// wantFound: which note is found on a disk that is made of the image.
func wantFound(t *testing.T, d *disk.Disk, parts int, want api.Note) {
	t.Helper()
	wantNote(t, wantOpen(t, loaded(t, imageOf(d)...), parts, api.OK), want)
}

// pairing is a journal on a disk, and the model beside it: each call goes to both.
type pairing struct {
	*Journal
	*model
	on *disk.Disk
}

// diskPairing has no journal yet.
func diskPairing(t *testing.T, image ...string) *pairing {
	t.Helper()
	return &pairing{model: &model{image: slices.Clone(image)}, on: loaded(t, image...)}
}

// newPairing is a new journal on a disk of so many blocks, whose blocks have bytes.
func newPairing(t *testing.T, blocks int, parts int) *pairing {
	t.Helper()
	p := diskPairing(t, named(blocks)...)
	p.layOut(t, parts, api.OK)
	return p
}

// openPairing is a journal out of an image.
func openPairing(t *testing.T, parts int, image ...string) *pairing {
	t.Helper()
	p := diskPairing(t, image...)
	p.openAnew(t, parts, api.OK)
	return p
}

// layOut formats both. What is wanted is told beside the model, so that this one is held to the document too.
func (p *pairing) layOut(t *testing.T, parts int, want api.Errno) {
	t.Helper()
	if e := p.model.format(parts); e != want {
		t.Fatalf("the model's format(%d) is %d, not %d", parts, e, want)
	}
	if j := wantFormat(t, p.on, parts, want); j != nil {
		p.Journal = j
	}
}

func (p *pairing) openAnew(t *testing.T, parts int, want api.Errno) {
	t.Helper()
	if e := p.model.open(parts); e != want {
		t.Fatalf("the model's open(%d) of %q is %d, not %d", parts, p.image, e, want)
	}
	if j := wantOpen(t, p.on, parts, want); j != nil {
		p.Journal = j
	}
}

func (p *pairing) keep(t *testing.T, n api.Note, want api.Errno) {
	t.Helper()
	if e := p.model.save(n); e != want {
		t.Fatalf("the model's save(%v) behind %v is %d, not %d", n, p.model.held, e, want)
	}
	wantSave(t, p.Journal, n, want)
}

func (p *pairing) arm(n int) {
	p.model.cut(n)
	p.on.Cut(n)
}

func (p *pairing) turn(on bool) {
	p.power(on)
	if on {
		p.on.On()
	} else {
		p.on.Off()
	}
}

// look holds all that is told to what the model says, the disk's state too.
func (p *pairing) look(t *testing.T) {
	t.Helper()
	wantNote(t, p.Journal, p.model.held)
	wantEnded(t, p.Journal, p.model.ended)
	p.lookAtDisk(t)
}

func (p *pairing) lookAtDisk(t *testing.T) {
	t.Helper()
	if p.on.Down() != p.off || p.on.Writes() != p.writes {
		t.Errorf("Down() and Writes() are %t and %d, not %t and %d", p.on.Down(), p.on.Writes(), p.off, p.writes)
	}
	wantImage(t, p.on, p.image...)
}

// refused: a Save that answers an error and changes nothing.
func (p *pairing) refused(t *testing.T, n api.Note, want api.Errno) {
	t.Helper()
	was := imageOf(p.on)
	held := p.Note()
	p.keep(t, n, want)
	wantImage(t, p.on, was...)
	wantNote(t, p.Journal, held)
	p.look(t)
}
