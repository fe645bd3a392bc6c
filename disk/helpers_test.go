package disk

import (
	"bytes"
	"math"
	"slices"
	"strings"
	"testing"

	"reprise/api"
)

// noCounts has numbers that no disk has as its blocks' number, what would be one if it were cut among them.
func noCounts() []int {
	return []int{0, -1, -64, 65, 66, 256, 256 + 1, 1<<16 + 2, 1<<32 + 3, math.MaxInt, math.MaxInt - 1, math.MinInt, math.MinInt + 1}
}

// noBlocks has numbers that are no block's in a disk of so many, what would be one if it were cut among them.
func noBlocks(count int) []int {
	return []int{-1, -2, -count, count, count + 1, 256, 1 << 16, 1 << 32, math.MaxInt, math.MaxInt - 1, math.MinInt, math.MinInt + 1}
}

// long: so many bytes, no two of which that stand beside each other are the same.
func long(count int) string {
	var b strings.Builder
	for i := range count {
		b.WriteByte(byte(i % 251))
	}
	return b.String()
}

// tooLong has texts that no block takes.
func tooLong() []string {
	return []string{long(1025), long(1026), long(2000), long(2048), long(1 << 17)}
}

// model is a disk that keeps texts, which nobody can write over.
type model struct {
	texts  []string
	off    bool
	armed  bool
	more   int
	reads  int
	writes int
}

func (m *model) has(i int) bool { return 0 <= i && i < len(m.texts) }

func (m *model) read(i int) (string, api.Errno) {
	if m.off {
		return "", api.ErrDown
	}
	if !m.has(i) {
		return "", api.ErrBlock
	}
	m.reads++
	return m.texts[i], api.OK
}

func (m *model) write(i int, text string) api.Errno {
	if m.off {
		return api.ErrDown
	}
	if !m.has(i) {
		return api.ErrBlock
	}
	if len(text) > 1024 {
		return api.ErrLong
	}
	if m.armed && m.more == 0 {
		m.off, m.armed = true, false
		return api.ErrDown
	}
	m.more--
	m.texts[i] = text
	m.writes++
	return api.OK
}

func (m *model) cut(n int) { m.armed, m.more = n >= 0, n }

func (m *model) power(on bool) { m.off, m.armed = !on, false }

// roomy: a list with the same elements and with spare room that holds something.
func roomy[E any](list []E, spare E) []E {
	all := append(slices.Clone(list), slices.Repeat([]E{spare}, 5)...)
	return all[:len(list)]
}

// spoil writes over bytes and over their spare room.
func spoil(b []byte) {
	b = b[:cap(b)]
	for i := range b {
		b[i] = '#'
	}
}

// spoilAll writes over the blocks of an image one by one, and holds those that are to come to what they were.
func spoilAll(t *testing.T, image [][]byte, want []string) {
	t.Helper()
	for i := range image {
		if string(image[i]) != want[i] {
			t.Errorf("block %d of the image is changed with one ahead of it: %q, not %q", i, image[i], want[i])
		}
		spoil(image[i])
	}
	image = image[:cap(image)]
	for i := range image {
		image[i] = []byte("##")
	}
}

func texts(image [][]byte) []string {
	list := make([]string, len(image))
	for i, block := range image {
		list[i] = string(block)
	}
	return list
}

func blocks(list []string) [][]byte {
	image := make([][]byte, len(list))
	for i, text := range list {
		image[i] = []byte(text)
	}
	return image
}

// roomyBlocks: an image with spare room behind its blocks and behind each one's bytes.
func roomyBlocks(list []string) [][]byte {
	image := roomy(blocks(list), []byte("spare"))
	for i := range image {
		image[i] = roomy(image[i], '~')
	}
	return image
}

// wholeRoom: what stands in an image, its spare room too.
func wholeRoom(image [][]byte) []string {
	var list []string
	for _, block := range image[:cap(image)] {
		list = append(list, string(block[:cap(block)]))
	}
	return list
}

func wantNew(t *testing.T, count int) *Disk {
	t.Helper()
	d, e := New(count)
	if d == nil || e != api.OK {
		t.Fatalf("New(%d) is %v, %d", count, d, e)
	}
	return d
}

func wantNoNew(t *testing.T, count int) {
	t.Helper()
	if d, e := New(count); d != nil || e != api.ErrArg {
		t.Errorf("New(%d) is %v, %d, not ErrArg", count, d, e)
	}
}

// wantLoad hands an image in with spare room, and writes over it afterwards: the disk is to have kept none of it.
func wantLoad(t *testing.T, list []string) *Disk {
	t.Helper()
	image := roomyBlocks(list)
	was := wholeRoom(image)
	d, e := Load(image)
	if d == nil || e != api.OK {
		t.Fatalf("Load of %d blocks is %v, %d", len(list), d, e)
	}
	if !slices.Equal(wholeRoom(image), was) {
		t.Errorf("Load of %d blocks has changed them", len(list))
	}
	spoilAll(t, image, list)
	return d
}

func wantNoLoad(t *testing.T, list []string, want api.Errno) {
	t.Helper()
	image := roomyBlocks(list)
	was := wholeRoom(image)
	if d, e := Load(image); d != nil || e != want {
		t.Errorf("Load of %d blocks is %v, %d, not the error %d", len(list), d, e, want)
	}
	if !slices.Equal(wholeRoom(image), was) {
		t.Errorf("Load of %d blocks has changed them", len(list))
	}
}

// wantRead writes over what it was answered.
func wantRead(t *testing.T, d *Disk, i int, want string, code api.Errno) {
	t.Helper()
	b, e := d.Read(i)
	if string(b) != want || e != code {
		t.Errorf("Read(%d) is %q, %d, not %q, %d", i, b, e, want, code)
	}
	spoil(b)
}

// wantWrite hands bytes in with spare room, and writes over them afterwards.
func wantWrite(t *testing.T, d *Disk, i int, text string, want api.Errno) {
	t.Helper()
	in := roomy([]byte(text), '~')
	was := bytes.Clone(in[:cap(in)])
	if e := d.Write(i, in); e != want {
		t.Errorf("Write(%d, %d bytes) is %d, not %d", i, len(text), e, want)
	}
	if !bytes.Equal(in[:cap(in)], was) {
		t.Errorf("Write(%d, %d bytes) has changed them or their spare room", i, len(text))
	}
	spoil(in)
}

func wantDown(t *testing.T, d *Disk, want bool) {
	t.Helper()
	if down := d.Down(); down != want {
		t.Errorf("Down() is %t", down)
	}
}

func wantCounts(t *testing.T, d *Disk, reads int, writes int) {
	t.Helper()
	if d.Reads() != reads || d.Writes() != writes {
		t.Errorf("Reads() and Writes() are %d and %d, not %d and %d", d.Reads(), d.Writes(), reads, writes)
	}
}

// wantImage writes over what it was answered.
func wantImage(t *testing.T, d *Disk, want []string) {
	t.Helper()
	image := d.Image()
	if !slices.Equal(texts(image), want) {
		t.Errorf("Image() is %q, not %q", image, want)
		return
	}
	spoilAll(t, image, want)
}

// pairing is a disk and the model beside it: each call goes to both.
type pairing struct {
	*Disk
	*model
}

func newPairing(t *testing.T, count int) pairing {
	t.Helper()
	return pairing{wantNew(t, count), &model{texts: make([]string, count)}}
}

func loadPairing(t *testing.T, list []string) pairing {
	t.Helper()
	return pairing{wantLoad(t, list), &model{texts: slices.Clone(list)}}
}

func (b pairing) get(t *testing.T, i int) {
	t.Helper()
	text, e := b.model.read(i)
	wantRead(t, b.Disk, i, text, e)
}

// put writes to both; want is told beside the model, so that this one is held to the document too.
func (b pairing) put(t *testing.T, i int, text string, want api.Errno) {
	t.Helper()
	if e := b.model.write(i, text); e != want {
		t.Fatalf("the model's write(%d, %d bytes) is %d, not %d", i, len(text), e, want)
	}
	wantWrite(t, b.Disk, i, text, want)
}

func (b pairing) arm(n int) {
	b.model.cut(n)
	b.Cut(n)
}

func (b pairing) turn(on bool) {
	b.power(on)
	if on {
		b.On()
	} else {
		b.Off()
	}
}

// look holds all that a disk tells without a read or a write to what the model says.
func (b pairing) look(t *testing.T) {
	t.Helper()
	wantDown(t, b.Disk, b.off)
	wantCounts(t, b.Disk, b.model.reads, b.model.writes)
	wantImage(t, b.Disk, b.texts)
	if n := b.Blocks(); n != len(b.texts) {
		t.Errorf("Blocks() is %d, not %d", n, len(b.texts))
	}
}

// hold reads each block too, and what is none.
func (b pairing) hold(t *testing.T) {
	t.Helper()
	b.look(t)
	for i := range b.texts {
		b.get(t, i)
	}
	for _, i := range noBlocks(len(b.texts)) {
		b.get(t, i)
	}
	b.look(t)
}
