package pages

import (
	"encoding/binary"
	"math"
	"slices"
	"strings"
	"testing"

	"reprise/api"
	"reprise/disk"
)

// most is the greatest generation.
const most = uint64(1) << 40

// noCounts has numbers that no book has as its pages' number, what would be one if it were cut among them.
func noCounts() []int {
	return []int{0, -1, -2, -8, 9, 10, 16, 64, 256, 256 + 1, 1<<16 + 2, 1<<32 + 3, math.MaxInt, math.MaxInt - 1, math.MinInt, math.MinInt + 1}
}

// noPages has numbers that are no page's in a book of so many, what would be one if it were cut among them.
func noPages(count int) []int {
	return []int{-1, -2, -count, count, count + 1, 8, 9, 256, 1 << 16, 1 << 32, math.MaxInt, math.MaxInt - 1, math.MinInt, math.MinInt + 1}
}

// long: so many bytes, no two of which that stand beside each other are the same.
func long(count int) string {
	var b strings.Builder
	for i := range count {
		b.WriteByte(byte(i%251 + 1))
	}
	return b.String()
}

// tooLong has texts that no page takes.
func tooLong() []string { return []string{long(1025), long(1026), long(2048), long(1 << 17)} }

// laid is one of a list of writes, as a text.
type laid struct {
	page int
	text string
}

// tale is a root as the model has it.
type tale struct {
	gen    uint64
	blocks []int
}

// text: the root's bytes.
func (r tale) text() string {
	b := binary.AppendUvarint(nil, r.gen)
	b = binary.AppendUvarint(b, uint64(len(r.blocks)))
	for _, block := range r.blocks {
		b = binary.AppendUvarint(b, uint64(block))
	}
	return string(b)
}

// rootText: the bytes of a root of these blocks.
func rootText(gen uint64, blocks ...int) string { return tale{gen, blocks}.text() }

// numbers: all numbers that a text is made of, whatever their form; false, if it ends within one.
func numbers(text string) ([]uint64, bool) {
	var list []uint64
	for b := []byte(text); len(b) > 0; {
		x, n := binary.Uvarint(b)
		if n <= 0 {
			return nil, false
		}
		list, b = append(list, x), b[n:]
	}
	return list, true
}

// told: the root that a text is, if it is right on a disk of count blocks. It writes what it
// has read anew, and sees whether it is the same: so it needs nothing to know of the forms.
func told(text string, count int) (tale, bool) {
	list, whole := numbers(text)
	if !whole || len(list) < 3 || list[0] < 1 || list[0] > most || list[1] != uint64(len(list)-2) {
		return tale{}, false
	}
	r := tale{gen: list[0]}
	times := map[uint64]int{}
	for _, x := range list[2:] {
		times[x]++
		if x != 0 && (x < 2 || x >= uint64(count) || times[x] > 1) {
			return tale{}, false
		}
		r.blocks = append(r.blocks, int(x))
	}
	pages := len(r.blocks)
	return r, pages <= 8 && 2+2*pages <= count && r.text() == text
}

// model is a disk and the book on it; it keeps texts, which nobody can write over.
type model struct {
	image  []string
	off    bool
	armed  bool
	more   int
	reads  int
	writes int

	tale
	home  int
	ended bool
}

func (m *model) write(i int, text string) bool {
	if m.off || m.armed && m.more == 0 {
		m.off, m.armed = true, false
		return false
	}
	m.more--
	m.image[i] = text
	m.writes++
	return true
}

func (m *model) cut(n int) { m.armed, m.more = n >= 0, n }

func (m *model) power(on bool) { m.off, m.armed = !on, false }

func (m *model) format(n int) api.Errno {
	if n < 1 || n > 8 {
		return api.ErrArg
	}
	if len(m.image) < 2+2*n {
		return api.ErrRoom
	}
	r := tale{1, make([]int, n)}
	if !m.write(1, "") || !m.write(0, r.text()) {
		return api.ErrDown
	}
	m.tale, m.home, m.ended = r, 0, false
	return api.OK
}

func (m *model) open() api.Errno {
	if m.off {
		return api.ErrDown
	}
	m.reads += min(2, len(m.image))
	if len(m.image) < 2 {
		return api.ErrRoot
	}
	zero, right0 := told(m.image[0], len(m.image))
	one, right1 := told(m.image[1], len(m.image))
	if !right0 && !right1 {
		return api.ErrRoot
	}
	m.tale, m.home, m.ended = zero, 0, false
	if !right0 || right1 && one.gen > zero.gen {
		m.tale, m.home = one, 1
	}
	return api.OK
}

func (m *model) gone() bool {
	m.ended = m.ended || m.off
	return m.ended
}

func (m *model) get(page int) (string, api.Errno) {
	if m.gone() {
		return "", api.ErrDown
	}
	if page < 0 || page >= len(m.blocks) {
		return "", api.ErrPage
	}
	if m.blocks[page] == 0 {
		return "", api.OK
	}
	m.reads++
	return m.image[m.blocks[page]], api.OK
}

func (m *model) fault(list []laid) api.Errno {
	for i, w := range list {
		if w.page < 0 || w.page >= len(m.blocks) {
			return api.ErrPage
		}
		if slices.ContainsFunc(list[:i], func(v laid) bool { return v.page == w.page }) {
			return api.ErrTwice
		}
		if len(w.text) > 1024 {
			return api.ErrLong
		}
	}
	return api.OK
}

func (m *model) put(list []laid) api.Errno {
	if m.gone() {
		return api.ErrDown
	}
	if e := m.fault(list); e != api.OK || len(list) == 0 {
		return e
	}
	if m.gen == most {
		return api.ErrRoom
	}
	next := tale{m.gen + 1, slices.Clone(m.blocks)}
	var used []int
	for _, w := range list {
		next.blocks[w.page] = 0
		if w.text == "" {
			continue
		}
		block := 2
		for slices.Contains(m.blocks, block) || slices.Contains(used, block) {
			block++
		}
		if !m.write(block, w.text) {
			m.ended = true
			return api.ErrDown
		}
		used = append(used, block)
		next.blocks[w.page] = block
	}
	if !m.write(1-m.home, next.text()) {
		m.ended = true
		return api.ErrDown
	}
	m.tale, m.home = next, 1-m.home
	return api.OK
}

// texts: the pages, as they are on the disk.
func (m *model) texts() []string {
	var list []string
	for _, block := range m.blocks {
		text := ""
		if block != 0 {
			text = m.image[block]
		}
		list = append(list, text)
	}
	return list
}

func (m *model) used() int {
	n := 0
	for _, block := range m.blocks {
		n += min(block, 1)
	}
	return n
}

// roomy: a list with the same elements and with spare room that holds something.
func roomy[E any](list []E, spare E) []E {
	all := append(slices.Clone(list), slices.Repeat([]E{spare}, 5)...)
	return all[:len(list)]
}

// spoil writes over bytes and over their spare room.
func spoil(b []byte) {
	b = b[:cap(b)]
	for i := range b {
		b[i] = '#'
	}
}

// writesOf: the list as it is handed in, with spare room behind it and behind each one's bytes.
func writesOf(list []laid) []api.PageWrite {
	var writes []api.PageWrite
	for _, w := range list {
		writes = append(writes, api.PageWrite{Page: w.page, Data: roomy([]byte(w.text), '~')})
	}
	return roomy(writes, api.PageWrite{Page: 0, Data: []byte("spare")})
}

// wholeRoom: what stands in a list, its spare room too.
func wholeRoom(list []api.PageWrite) []laid {
	var all []laid
	for _, w := range list[:cap(list)] {
		all = append(all, laid{w.Page, string(w.Data[:cap(w.Data)])})
	}
	return all
}

func spoilWrites(list []api.PageWrite) {
	list = list[:cap(list)]
	for i := range list {
		spoil(list[i].Data)
		list[i] = api.PageWrite{Page: -7, Data: []byte("##")}
	}
}

// pagesOf: how long each of the list is, to be told.
func pagesOf(list []laid) [][2]int {
	var all [][2]int
	for _, w := range list {
		all = append(all, [2]int{w.page, len(w.text)})
	}
	return all
}

// wantPut hands a list in with spare room, and writes over it afterwards.
func wantPut(t *testing.T, b *Book, list []laid, want api.Errno) {
	t.Helper()
	in := writesOf(list)
	was := wholeRoom(in)
	if e := b.Put(in); e != want {
		t.Errorf("Put of the pages and lengths %v is %d, not %d", pagesOf(list), e, want)
	}
	if !slices.Equal(wholeRoom(in), was) {
		t.Errorf("Put of the pages and lengths %v has changed them or their spare room", pagesOf(list))
	}
	spoilWrites(in)
}

// wantGet writes over what it was answered.
func wantGet(t *testing.T, b *Book, page int, want string, code api.Errno) {
	t.Helper()
	got, e := b.Get(page)
	if string(got) != want || e != code {
		t.Errorf("Get(%d) is %q, %d, not %q, %d", page, got, e, want, code)
	}
	spoil(got)
}

func wantEnded(t *testing.T, b *Book, want bool) {
	t.Helper()
	if ended := b.Ended(); ended != want {
		t.Errorf("Ended() is %t", ended)
	}
}

func imageOf(d *disk.Disk) []string {
	var list []string
	for _, block := range d.Image() {
		list = append(list, string(block))
	}
	return list
}

func wantImage(t *testing.T, d *disk.Disk, want ...string) {
	t.Helper()
	if got := imageOf(d); !slices.Equal(got, want) {
		t.Errorf("the disk is %q, not %q", got, want)
	}
}

func loaded(t *testing.T, image []string) *disk.Disk {
	t.Helper()
	var blocks [][]byte
	for _, text := range image {
		blocks = append(blocks, []byte(text))
	}
	d, e := disk.Load(blocks)
	if e != api.OK {
		t.Fatalf("Load of %d blocks is %d", len(image), e)
	}
	return d
}

// named: so many texts, each another one.
func named(count int) []string {
	var list []string
	for i := range count {
		list = append(list, "block "+string(rune('A'+i)))
	}
	return list
}

// pairing is a book on a disk, and the model beside it: each call goes to both.
type pairing struct {
	*Book
	*model
	on *disk.Disk
}

// diskPairing has no book yet.
func diskPairing(t *testing.T, image []string) *pairing {
	t.Helper()
	return &pairing{model: &model{image: slices.Clone(image)}, on: loaded(t, image)}
}

// newPairing is a new book of so many pages on a disk of so many blocks, whose blocks have bytes.
func newPairing(t *testing.T, count int, pages int) *pairing {
	t.Helper()
	p := diskPairing(t, named(count))
	p.layOut(t, pages, api.OK)
	return p
}

// openPairing is a book out of an image.
func openPairing(t *testing.T, image []string) *pairing {
	t.Helper()
	p := diskPairing(t, image)
	p.openAnew(t, api.OK)
	return p
}

// layOut formats both. What is wanted is told beside the model, so that this one is held to the document too.
func (p *pairing) layOut(t *testing.T, pages int, want api.Errno) {
	t.Helper()
	if e := p.model.format(pages); e != want {
		t.Fatalf("the model's format(%d) is %d, not %d", pages, e, want)
	}
	b, e := Format(p.on, pages)
	if e != want || (b != nil) != (want == api.OK) {
		t.Fatalf("Format(%d) is %v, %d, not %d", pages, b, e, want)
	}
	if b != nil {
		p.Book = b
	}
}

func (p *pairing) openAnew(t *testing.T, want api.Errno) {
	t.Helper()
	if e := p.model.open(); e != want {
		t.Fatalf("the model's open of %q is %d, not %d", p.image, e, want)
	}
	b, e := Open(p.on)
	if e != want || (b != nil) != (want == api.OK) {
		t.Fatalf("Open of %q is %v, %d, not %d", p.image, b, e, want)
	}
	if b != nil {
		p.Book = b
	}
}

func (p *pairing) fetch(t *testing.T, page int, want api.Errno) {
	t.Helper()
	text, e := p.model.get(page)
	if e != want {
		t.Fatalf("the model's get(%d) is %d, not %d", page, e, want)
	}
	wantGet(t, p.Book, page, text, want)
}

func (p *pairing) lay(t *testing.T, want api.Errno, list ...laid) {
	t.Helper()
	if e := p.model.put(list); e != want {
		t.Fatalf("the model's put of %v is %d, not %d", pagesOf(list), e, want)
	}
	wantPut(t, p.Book, list, want)
}

func (p *pairing) arm(n int) {
	p.model.cut(n)
	p.on.Cut(n)
}

func (p *pairing) turn(on bool) {
	p.power(on)
	if on {
		p.on.On()
	} else {
		p.on.Off()
	}
}

// look holds all that is told without a Get or a Put to what the model says, the disk's state too.
func (p *pairing) look(t *testing.T) {
	t.Helper()
	if p.Pages() != len(p.model.blocks) || p.Used() != p.model.used() || p.Ended() != p.model.ended {
		t.Errorf("Pages(), Used() and Ended() are %d, %d and %t, not %d, %d and %t",
			p.Pages(), p.Used(), p.Ended(), len(p.model.blocks), p.model.used(), p.model.ended)
	}
	p.lookAtDisk(t)
}

func (p *pairing) lookAtDisk(t *testing.T) {
	t.Helper()
	if p.on.Down() != p.off || p.on.Reads() != p.reads || p.on.Writes() != p.writes {
		t.Errorf("Down(), Reads() and Writes() are %t, %d and %d, not %t, %d and %d",
			p.on.Down(), p.on.Reads(), p.on.Writes(), p.off, p.reads, p.writes)
	}
	wantImage(t, p.on, p.image...)
}

// hold gets each page too, and what is none. A book that may not be asked is left as it is.
func (p *pairing) hold(t *testing.T) {
	t.Helper()
	p.look(t)
	if p.off || p.model.ended {
		return
	}
	for i, text := range p.texts() {
		p.model.get(i)
		wantGet(t, p.Book, i, text, api.OK)
	}
	for _, i := range noPages(len(p.model.blocks)) {
		p.fetch(t, i, api.ErrPage)
	}
	p.look(t)
}

// found holds the pages of a disk made of the image to these.
func (p *pairing) found(t *testing.T, want []string) {
	t.Helper()
	b, e := Open(loaded(t, imageOf(p.on)))
	if e != api.OK {
		t.Fatalf("Open of the image %q is %d", p.image, e)
	}
	if n := b.Pages(); n != len(want) {
		t.Fatalf("the image has %d pages, not %d", n, len(want))
	}
	for i, text := range want {
		wantGet(t, b, i, text, api.OK)
	}
}
