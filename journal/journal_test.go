package journal

import (
	"math"
	"slices"
	"strings"
	"testing"

	"reprise/api"
	"reprise/disk"
)

// The three examples.

// exampleJournal is the journal of the examples behind the Saves of the first one.
func exampleJournal(t *testing.T) (*disk.Disk, *Journal) {
	t.Helper()
	d, _ := disk.New(2)
	j := wantFormat(t, d, 1, api.OK)
	wantImage(t, d, "\x01\x00\x00\x01\x00\x01\x00", "")
	wantSave(t, j, one(0, 0, 0, 1), api.OK)
	wantImage(t, d, "\x01\x00\x00\x01\x00\x01\x00", "\x02\x00\x01\x01\x00\x01\x00")
	wantSave(t, j, one(1, 0, 5, 1), api.OK)
	wantImage(t, d, "\x03\x01\x01\x01\x00\x01\x05", "\x02\x00\x01\x01\x00\x01\x00")
	wantNote(t, j, one(1, 0, 5, 1))
	return d, j
}

func TestExampleFormatAndSave(t *testing.T) { exampleJournal(t) }

func TestExampleRefused(t *testing.T) {
	d, j := exampleJournal(t)
	was := imageOf(d)
	wantSave(t, j, one(1, 0, 5, 0), api.ErrOrder)
	wantSave(t, j, one(1, 0, 6, 1), api.ErrOrder)
	wantSave(t, j, one(2, 4, 6, 1), api.ErrOrder)
	wantSave(t, j, one(3, 5, 6, 1), api.ErrOrder)
	wantSave(t, j, one(2, 5, 4, 1), api.ErrArg)
	wantSave(t, j, note(2, []int{5, 0}, []int{5, 0}, 1), api.ErrArg)
	wantSave(t, j, one(2, 5, 257, 1), api.ErrArg)
	wantImage(t, d, was...)
	wantNote(t, j, one(1, 0, 5, 1))
	wantEnded(t, j, false)
}

func TestExampleThePowerGoes(t *testing.T) {
	d, j := exampleJournal(t)
	d.Cut(0)
	wantSave(t, j, one(2, 5, 9, 3), api.ErrDown)
	wantEnded(t, j, true)
	d.On()
	wantNote(t, wantOpen(t, d, 1, api.OK), one(1, 0, 5, 1))
	wantOpen(t, d, 2, api.ErrJournal)
}

// P18.1

func TestFormatOfEachNumber(t *testing.T) {
	for parts := 1; parts <= 4; parts++ {
		for _, blocks := range []int{2, 3, 16, 63, 64} {
			p := diskPairing(t, named(blocks)...)
			want := named(blocks)
			want[0], want[1] = string(slices.Concat([]byte{1, 0, 0, byte(parts)}, make([]byte, parts), []byte{byte(parts)}, make([]byte, parts))), ""
			p.layOut(t, parts, api.OK)
			if w := p.on.Writes(); w != 2 {
				t.Errorf("Format(%d) writes %d blocks", parts, w)
			}
			// All other blocks are as they were.
			wantImage(t, p.on, want...)
			wantNote(t, p.Journal, even(parts, 0, 0, 0, 0))
			wantFound(t, p.on, parts, even(parts, 0, 0, 0, 0))
			p.look(t)
		}
	}
}

func TestFormatOfNoNumber(t *testing.T) {
	for _, parts := range noParts() {
		// A number of partitions is refused ahead of a disk without room and of one that is down.
		for _, blocks := range []int{1, 2, 64} {
			for _, down := range []bool{false, true} {
				p := diskPairing(t, named(blocks)...)
				p.turn(!down)
				p.layOut(t, parts, api.ErrArg)
				p.lookAtDisk(t)
				if blocks > 1 && !down {
					p.layOut(t, 1, api.OK)
				}
			}
		}
		p := diskPairing(t, named(2)...)
		p.arm(0)
		p.layOut(t, parts, api.ErrArg)
		// The disk is armed still.
		p.layOut(t, 1, api.ErrDown)
	}
}

func TestFormatOfNoDisk(t *testing.T) {
	for _, parts := range append(noParts(), 1, 2, 3, 4) {
		wantFormat(t, nil, parts, api.ErrNil)
	}
}

func TestFormatOfADiskWithoutRoom(t *testing.T) {
	for parts := 1; parts <= 4; parts++ {
		wantFormat(t, new(disk.Disk), parts, api.ErrRoom)
		for _, down := range []bool{false, true} {
			// What stands in the one block plays no part, and neither does the power.
			for _, text := range []string{"", "block A", textOf(4, even(parts, 0, 0, 0, 3))} {
				p := diskPairing(t, text)
				p.turn(!down)
				p.layOut(t, parts, api.ErrRoom)
				p.lookAtDisk(t)
			}
		}
		p := diskPairing(t, "block A")
		p.arm(0)
		p.layOut(t, parts, api.ErrRoom)
		p.lookAtDisk(t)
	}
	for _, parts := range noParts() {
		wantFormat(t, new(disk.Disk), parts, api.ErrArg)
	}
}

func TestFormatOfADiskThatIsDown(t *testing.T) {
	for parts := 1; parts <= 4; parts++ {
		p := diskPairing(t, named(3)...)
		p.turn(false)
		p.layOut(t, parts, api.ErrDown)
		p.lookAtDisk(t)
		p.turn(true)
		p.layOut(t, parts, api.OK)
		p.look(t)
	}
}

// olds has what blocks 0 and 1 may hold ahead of a Format.
func olds() [][]string {
	young, elder := textOf(8, one(3, 2, 7, 9)), textOf(7, one(2, 0, 2, 9))
	return [][]string{
		{"", ""}, {"block A", "block B"}, {young, elder}, {elder, young}, {young, ""}, {"", young},
		{textOf(most, one(3, 2, 7, 9)), textOf(most, one(2, 0, 2, 9))}, {strings.Repeat("x", 1024), strings.Repeat("y", 1024)},
	}
}

func TestThePowerGoesInAFormat(t *testing.T) {
	first := "\x01\x00\x00\x01\x00\x01\x00"
	for _, old := range olds() {
		p := diskPairing(t, old...)
		p.arm(0)
		p.layOut(t, 1, api.ErrDown)
		wantImage(t, p.on, old...)
		p.lookAtDisk(t)

		p = diskPairing(t, old...)
		p.arm(1)
		p.layOut(t, 1, api.ErrDown)
		wantImage(t, p.on, old[0], "")
		p.lookAtDisk(t)

		// Behind both of them it may be done anew.
		p.turn(true)
		p.layOut(t, 1, api.OK)
		wantImage(t, p.on, first, "")

		// Two writes are all that it wants.
		p = diskPairing(t, old...)
		p.arm(2)
		p.layOut(t, 1, api.OK)
		wantImage(t, p.on, first, "")
		p.look(t)
		wantFound(t, p.on, 1, one(0, 0, 0, 0))
		p.keep(t, one(0, 0, 0, 1), api.ErrDown)
		p.look(t)
	}
}

// P18.2

func TestOpenOfNoDisk(t *testing.T) {
	for _, parts := range append(noParts(), 1, 2, 3, 4) {
		j, e := Open(nil, parts)
		if j != nil || e != api.ErrNil {
			t.Errorf("Open(nil, %d) is %v, %d", parts, j, e)
		}
	}
}

func TestOpenOfNoNumber(t *testing.T) {
	for _, parts := range noParts() {
		// It is refused ahead of a disk that is down, and ahead of one without a journal.
		for _, image := range [][]string{{""}, {"", ""}, {textOf(1, one(0, 0, 0, 0)), ""}} {
			for _, down := range []bool{false, true} {
				p := diskPairing(t, image...)
				p.turn(!down)
				p.openAnew(t, parts, api.ErrArg)
			}
		}
	}
}

func TestOpenOfADiskThatIsDown(t *testing.T) {
	for _, image := range [][]string{{""}, {"", ""}, named(3), {textOf(1, one(0, 0, 0, 0)), ""}, {"", textOf(1, one(0, 0, 0, 0))}} {
		for parts := 1; parts <= 4; parts++ {
			p := diskPairing(t, image...)
			p.turn(false)
			p.openAnew(t, parts, api.ErrDown)
		}
	}
	p := newPairing(t, 2, 1)
	p.keep(t, one(1, 0, 3, 1), api.OK)
	p.turn(false)
	p.openAnew(t, 1, api.ErrDown)
	p.turn(true)
	p.openAnew(t, 1, api.OK)
	p.look(t)
}

func TestOpenOfBlocksWithoutANote(t *testing.T) {
	for _, image := range [][]string{{""}, {"block A"}, {"", ""}, named(2), named(64)} {
		for parts := 1; parts <= 4; parts++ {
			diskPairing(t, image...).openAnew(t, parts, api.ErrJournal)
		}
	}
	// A note in another block is none.
	right := textOf(3, one(1, 0, 5, 2))
	diskPairing(t, "", "", right).openAnew(t, 1, api.ErrJournal)
	diskPairing(t, "", "", right, right, right).openAnew(t, 1, api.ErrJournal)
}

func TestOpenOfOneRightNote(t *testing.T) {
	for parts := 1; parts <= 4; parts++ {
		held := even(parts, 3, 2, 7, 9)
		for _, gen := range []uint64{1, 2, 127, 128, most - 1, most} {
			for _, other := range append(wrongTexts(parts), "", "block") {
				wantFound(t, loaded(t, textOf(gen, held), other), parts, held)
				wantFound(t, loaded(t, other, textOf(gen, held)), parts, held)
			}
			// A disk may have more blocks, and what these hold plays no part.
			wantFound(t, loaded(t, "", textOf(gen, held), textOf(most, even(parts, 4, 7, 8, 9))), parts, held)
			wantFound(t, loaded(t, textOf(gen, held)), parts, held)
		}
	}
}

func TestOpenOfTwoRightNotes(t *testing.T) {
	a, b := one(3, 2, 7, 9), one(2, 0, 2, 11)
	for _, c := range []struct {
		zero uint64
		one  uint64
		want api.Note
	}{
		{1, 2, b}, {2, 1, a}, {1, 1, a}, {127, 128, b}, {128, 127, a}, {255, 256, b}, {256, 255, a}, {9, 9, a}, {1, most, b}, {most, 1, a},
		{most - 1, most, b}, {most, most - 1, a}, {most, most, a}, {1 << 33, 1<<33 + 1, b}, {1 << 33, 3, a}, {3, 1 << 33, b}, {3, 300, b},
	} {
		wantFound(t, loaded(t, textOf(c.zero, a), textOf(c.one, b)), 1, c.want)
		// A Save behind it goes to the block of the other one.
		p := openPairing(t, 1, textOf(c.zero, a), textOf(c.one, b))
		if max(c.zero, c.one) == most {
			p.refused(t, c.want, api.ErrRoom)
			continue
		}
		p.keep(t, c.want, api.OK)
		p.look(t)
	}
}

// wrongTexts has bytes that are no right note for so many partitions, each way of it.
func wrongTexts(parts int) []string {
	zeros, twos, fives := all(parts, 0), all(parts, 2), all(parts, 5)
	list := []string{
		"", "\x00",
		// The generation.
		rawText(0, 1, 3, zeros, fives), rawText(most+1, 1, 3, zeros, fives), rawText(math.MaxInt64, 1, 3, zeros, fives),
		rawText(1<<63, 1, 3, zeros, fives), rawText(1<<63+1, 1, 3, zeros, fives), rawText(math.MaxUint64, 1, 3, zeros, fives),
		// The batch.
		rawText(7, most+1, 3, zeros, fives), rawText(7, math.MaxInt64, 3, zeros, fives), rawText(7, 1<<63, 3, zeros, fives),
		rawText(7, 1<<63+1, 3, zeros, fives), rawText(7, math.MaxUint64, 3, zeros, fives), rawText(7, 0, 3, zeros, fives),
		rawText(7, 0, 3, twos, twos), rawText(7, 0, 3, fives, zeros),
		// The attempts.
		rawText(7, 1, most+1, zeros, fives), rawText(7, 1, math.MaxInt64, zeros, fives), rawText(7, 1, 1<<63, zeros, fives),
		rawText(7, 1, 1<<63+3, zeros, fives), rawText(7, 1, math.MaxUint64, zeros, fives),
		// The lists.
		rawText(7, 1, 3), rawText(7, 1, 3, fives), rawText(7, 1, 3, zeros, fives, nil), rawText(7, 1, 3, zeros, fives, fives),
		rawText(7, 1, 3, nil, nil), rawText(7, 1, 3, zeros, nil), rawText(7, 1, 3, nil, fives),
		rawText(7, 1, 3, append(zeros, 0), fives), rawText(7, 1, 3, zeros, append(fives, 5)), rawText(7, 1, 3, append(zeros, 0), append(fives, 5)),
		rawText(7, 1, 3, zeros[1:], fives), rawText(7, 1, 3, zeros, fives[1:]), rawText(7, 1, 3, zeros[1:], fives[1:]),
		rawText(7, 1, 3, all(5, 0), all(5, 5)), rawText(7, 1, 3, all(200, 0), all(200, 5)),
	}
	for i := range parts {
		for _, x := range []int{257, 258, 512, 1 << 16, 1<<32 + 5, 1 << 62, 1<<62 + 1, math.MaxInt, -1, math.MinInt} {
			far := all(parts, 5)
			far[i] = x
			list = append(list, rawText(7, 1, 3, zeros, far), rawText(7, 1, 3, far, far), rawText(7, 1, 3, far, fives))
		}
		// One end falls.
		falls := all(parts, 5)
		falls[i] = 1
		list = append(list, rawText(7, 1, 3, twos, falls))
		moved := all(parts, 0)
		moved[i] = 1
		list = append(list, rawText(7, 0, 3, zeros, moved), rawText(7, 0, 3, moved, moved))
	}
	return list
}

func TestOpenOfBytesThatAreNotRight(t *testing.T) {
	for parts := 1; parts <= 4; parts++ {
		lesser := even(parts, 0, 0, 0, 1)
		for _, text := range wrongTexts(parts) {
			diskPairing(t, text, "").openAnew(t, parts, api.ErrJournal)
			diskPairing(t, "", text).openAnew(t, parts, api.ErrJournal)
			diskPairing(t, text, text).openAnew(t, parts, api.ErrJournal)
			diskPairing(t, text).openAnew(t, parts, api.ErrJournal)
			wantFound(t, loaded(t, text, textOf(1, lesser)), parts, lesser)
			wantFound(t, loaded(t, textOf(1, lesser), text), parts, lesser)
		}
	}
}

// edgeNotes has right notes for so many partitions, at the edges of all that a note may be.
func edgeNotes(parts int) []api.Note {
	list := []api.Note{}
	for _, attempts := range []int{0, 1, 127, 128, 300, most - 1, most} {
		list = append(list, even(parts, 0, 0, 0, attempts))
		for _, batch := range []int{1, 2, 127, 128, 300, most - 1, most} {
			for _, ends := range [][2]int{{0, 0}, {0, 1}, {5, 5}, {0, 127}, {127, 128}, {128, 129}, {0, 256}, {255, 256}, {256, 256}} {
				list = append(list, even(parts, batch, ends[0], ends[1], attempts))
			}
		}
	}
	for i := range parts {
		prev, cur := all(parts, 3), all(parts, 9)
		prev[i], cur[i] = 200, 256
		list = append(list, note(4, prev, cur, 7), note(4, all(parts, 0), prev, 7), note(4, prev, all(parts, 256), 7))
	}
	return list
}

func TestOpenOfRightBytes(t *testing.T) {
	for parts := 1; parts <= 4; parts++ {
		for i, n := range edgeNotes(parts) {
			for _, gen := range []uint64{1, 127, 128, 16384, most - 1, most} {
				wantFound(t, loaded(t, textOf(gen, n), ""), parts, n)
				if i%7 == 0 {
					wantFound(t, loaded(t, "", textOf(gen, n), "c"), parts, n)
				}
			}
		}
	}
}

func TestOpenOfBytesThatAreCutOrHaveMore(t *testing.T) {
	lesser := func(parts int) api.Note { return even(parts, 0, 0, 0, 1) }
	for parts := 1; parts <= 4; parts++ {
		for _, n := range edgeNotes(parts) {
			text := textOf(300, n)
			for cut := range len(text) {
				wantFound(t, loaded(t, text[:cut], textOf(1, lesser(parts))), parts, lesser(parts))
			}
			for _, more := range []string{"\x00", "\x01", "\x80", "\xff", "\x01\x00", text, strings.Repeat("\x00", 500)} {
				wantFound(t, loaded(t, textOf(1, lesser(parts)), text+more), parts, lesser(parts))
			}
		}
	}
}

func TestOpenOfOtherForms(t *testing.T) {
	right := "\x07\x01\x03\x01\x00\x01\x05"
	wantFound(t, loaded(t, right, ""), 1, one(1, 0, 5, 3))
	for i := range len(right) {
		// The same number with a byte more than it needs.
		longer := right[:i] + string([]byte{right[i] | 0x80, 0}) + right[i+1:]
		diskPairing(t, longer, "").openAnew(t, 1, api.ErrJournal)
		diskPairing(t, "", longer).openAnew(t, 1, api.ErrJournal)
		for c := range 256 {
			p := diskPairing(t, right[:i]+string([]byte{byte(c)})+right[i+1:], "")
			p.openAnew(t, 1, p.model.open(1))
		}
		for more := range 256 {
			p := diskPairing(t, "", right[:i]+string([]byte{byte(more)})+right[i:])
			p.openAnew(t, 1, p.model.open(1))
		}
	}
}

func TestOpenOfAllShortTexts(t *testing.T) {
	for _, parts := range []int{1, 2} {
		// Each generation and so on out of few bytes, one behind the other.
		bytes := []byte{0, 1, 2, 0x80}
		count := 1
		for range 5 + 2*parts {
			count *= len(bytes)
		}
		for row := range count {
			text := []byte{}
			for rest := row; len(text) < 5+2*parts; rest /= len(bytes) {
				text = append(text, bytes[rest%len(bytes)])
			}
			gen, n, right := told(string(text), parts)
			found, whole := takeEntry(text, parts)
			if right != whole || found.generation != gen || !same(found.note, n) {
				t.Fatalf("%x is %v, %t, not %d, %v, %t", text, found, whole, gen, n, right)
			}
		}
	}
}

func TestOpenOfAnotherNumberOfPartitions(t *testing.T) {
	for parts := 1; parts <= 4; parts++ {
		for other := 1; other <= 4; other++ {
			for _, n := range []api.Note{even(parts, 0, 0, 0, 0), even(parts, 2, 0, 0, 3), even(parts, 5, 3, 9, 8)} {
				want := api.ErrJournal
				if other == parts {
					want = api.OK
				}
				diskPairing(t, textOf(4, n), "").openAnew(t, other, want)
				diskPairing(t, "", textOf(4, n)).openAnew(t, other, want)
				// One for each number: that of the greater generation plays no part, if it is the other's.
				if other != parts {
					held := even(other, 1, 1, 2, 6)
					wantFound(t, loaded(t, textOf(4, n), textOf(3, held)), other, held)
					wantFound(t, loaded(t, textOf(4, n), textOf(3, held)), parts, n)
				}
			}
		}
	}
	p := newPairing(t, 2, 3)
	p.openAnew(t, 2, api.ErrJournal)
	p.openAnew(t, 4, api.ErrJournal)
	p.openAnew(t, 3, api.OK)
	p.look(t)
}

func TestOpenOfADiskThatIsArmed(t *testing.T) {
	p := newPairing(t, 2, 2)
	p.arm(0)
	// Since it writes nothing, the power stays.
	p.openAnew(t, 2, api.OK)
	p.look(t)
	p.keep(t, even(2, 0, 0, 0, 1), api.ErrDown)
	p.look(t)
}

// P18.3

func TestNoteOfANilJournal(t *testing.T) {
	var none *Journal
	if n := none.Note(); !same(n, api.Note{}) {
		t.Errorf("Note() is %v", n)
	}
}

func TestNoteOfAnEndedJournal(t *testing.T) {
	p := newPairing(t, 2, 2)
	p.keep(t, note(1, []int{0, 0}, []int{4, 0}, 2), api.OK)
	p.arm(0)
	p.keep(t, note(2, []int{4, 0}, []int{4, 9}, 5), api.ErrDown)
	for range 2 {
		wantNote(t, p.Journal, note(1, []int{0, 0}, []int{4, 0}, 2))
		p.look(t)
		p.turn(true)
	}
	p.keep(t, note(2, []int{4, 0}, []int{4, 9}, 5), api.ErrDown)
	wantNote(t, p.Journal, note(1, []int{0, 0}, []int{4, 0}, 2))
}

func TestNoteWhileTheDiskIsDown(t *testing.T) {
	p := newPairing(t, 2, 1)
	p.keep(t, one(1, 0, 3, 1), api.OK)
	p.turn(false)
	// No call has answered ErrDown so far.
	p.look(t)
	wantEnded(t, p.Journal, false)
	p.turn(true)
	p.keep(t, one(2, 3, 4, 1), api.OK)
	p.look(t)
}

// P18.4: its errors.

// wrongNotes has notes that aren't right for so many partitions, each way of it, behind one that ends at 5 with batch 3.
func wrongNotes(parts int) []api.Note {
	prev, cur := func() []int { return all(parts, 5) }, func() []int { return all(parts, 9) }
	list := []api.Note{
		{},
		// The lists' lengths.
		note(4, nil, nil, 8), note(4, prev(), nil, 8), note(4, nil, cur(), 8), note(4, prev()[1:], cur(), 8), note(4, prev(), cur()[1:], 8),
		note(4, prev()[1:], cur()[1:], 8), note(4, append(prev(), 5), cur(), 8), note(4, prev(), append(cur(), 9), 8),
		note(4, append(prev(), 5), append(cur(), 9), 8), note(4, all(300, 5), all(300, 9), 8), note(4, prev(), all(1<<16, 9), 8),
		// Ends that stand in a batch of 0.
		note(0, prev(), cur(), 8), note(0, prev(), prev(), 8), note(0, all(parts, 0), prev(), 8),
	}
	for _, x := range []int{-1, -2, most + 1, most + 2, 1 << 62, -most, math.MaxInt, math.MaxInt - 1, math.MinInt, math.MinInt + 1} {
		list = append(list, note(4, prev(), cur(), x), note(x, prev(), cur(), 8), note(x, all(parts, 0), all(parts, 0), 8), note(x, prev(), cur(), x))
	}
	for i := range parts {
		for _, x := range []int{257, 258, 1 << 16, 1<<32 + 9, math.MaxInt, -1, math.MinInt} {
			wrong := cur()
			wrong[i] = x
			list = append(list, note(4, prev(), wrong, 8), note(4, wrong, wrong, 8), note(4, wrong, cur(), 8), note(9, wrong, cur(), 0))
		}
		falls, starts := cur(), prev()
		falls[i], starts[i] = 4, 10
		list = append(list, note(4, prev(), falls, 8), note(4, starts, cur(), 8), note(3, starts, cur(), 0))
		moved := all(parts, 0)
		moved[i] = 1
		list = append(list, note(0, all(parts, 0), moved, 8), note(0, moved, moved, 8))
	}
	return list
}

// strayNotes has notes that are right, but don't follow one of batch 3 from 2 to 5 with 7 attempts.
func strayNotes(parts int) []api.Note {
	list := []api.Note{
		// Fewer attempts.
		even(parts, 3, 2, 5, 6), even(parts, 4, 5, 9, 6), even(parts, 3, 2, 5, 0), even(parts, 4, 5, 9, 0), even(parts, 4, 5, 5, 1),
		// The same batch with other ends.
		even(parts, 3, 2, 6, 7), even(parts, 3, 2, 4, 7), even(parts, 3, 1, 5, 7), even(parts, 3, 3, 5, 7), even(parts, 3, 5, 5, 9), even(parts, 3, 5, 9, 9),
		even(parts, 3, 0, 0, 9),
		// One batch more, from elsewhere.
		even(parts, 4, 2, 5, 7), even(parts, 4, 4, 9, 7), even(parts, 4, 6, 9, 7), even(parts, 4, 0, 9, 8), even(parts, 4, 9, 9, 8),
		// Another batch.
		even(parts, 5, 5, 9, 8), even(parts, 5, 2, 5, 8), even(parts, 2, 2, 5, 8), even(parts, 2, 0, 2, 8), even(parts, 2, 5, 9, 8), even(parts, 1, 2, 5, 8),
		even(parts, 0, 0, 0, 8), even(parts, most, 5, 9, 8), even(parts, most, 2, 5, most), even(parts, 3+256, 2, 5, 8), even(parts, 4+1<<32, 5, 9, 8),
	}
	for i := range parts {
		prev, cur := all(parts, 2), all(parts, 5)
		prev[i], cur[i] = 1, 6
		from := all(parts, 5)
		from[i] = 4
		list = append(list, note(3, prev, all(parts, 5), 7), note(3, all(parts, 2), cur, 7), note(4, from, all(parts, 9), 7), note(4, cur, all(parts, 9), 7))
	}
	return list
}

// heldPairing is a journal with the note of batch 3 from 2 to 5 with 7 attempts, with this generation, in this block.
func heldPairing(t *testing.T, parts int, gen uint64, home int) *pairing {
	t.Helper()
	image := []string{"", ""}
	image[home] = textOf(gen, even(parts, 3, 2, 5, 7))
	return openPairing(t, parts, image...)
}

func TestSaveOfANilJournal(t *testing.T) {
	var none *Journal
	for _, n := range slices.Concat(wrongNotes(1), strayNotes(1), edgeNotes(1)) {
		wantSave(t, none, n, api.ErrNil)
	}
	wantEnded(t, none, false)
}

func TestSaveOfNotesThatAreNotRight(t *testing.T) {
	for parts := 1; parts <= 4; parts++ {
		// Neither the order nor the room is asked ahead of it.
		for _, gen := range []uint64{1, 9, most} {
			for home := range 2 {
				p := heldPairing(t, parts, gen, home)
				for _, n := range wrongNotes(parts) {
					p.refused(t, n, api.ErrArg)
				}
				wantEnded(t, p.Journal, false)
			}
		}
	}
}

func TestSaveOfNotesThatDoNotFollow(t *testing.T) {
	for parts := 1; parts <= 4; parts++ {
		// The room isn't asked ahead of it.
		for _, gen := range []uint64{1, 9, most} {
			for home := range 2 {
				p := heldPairing(t, parts, gen, home)
				for _, n := range strayNotes(parts) {
					p.refused(t, n, api.ErrOrder)
				}
				wantEnded(t, p.Journal, false)
			}
		}
	}
}

// nextNotes has notes that follow the one of batch 3 from 2 to 5 with 7 attempts.
func nextNotes(parts int) []api.Note {
	list := []api.Note{
		even(parts, 3, 2, 5, 7), even(parts, 3, 2, 5, 8), even(parts, 3, 2, 5, 300), even(parts, 3, 2, 5, most),
		even(parts, 4, 5, 5, 7), even(parts, 4, 5, 9, 7), even(parts, 4, 5, 9, 8), even(parts, 4, 5, 256, most),
	}
	for i := range parts {
		cur := all(parts, 5)
		cur[i] = 256
		list = append(list, note(4, all(parts, 5), cur, 9))
	}
	return list
}

func TestSaveAtTheGreatestGeneration(t *testing.T) {
	for parts := 1; parts <= 4; parts++ {
		for home := range 2 {
			p := heldPairing(t, parts, most, home)
			for _, n := range nextNotes(parts) {
				p.refused(t, n, api.ErrRoom)
			}
			wantEnded(t, p.Journal, false)
			p.turn(false)
			p.keep(t, nextNotes(parts)[0], api.ErrDown)
			p.look(t)

			// One below it there is room for one more.
			p = heldPairing(t, parts, most-1, home)
			p.keep(t, even(parts, 4, 5, 9, 8), api.OK)
			p.look(t)
			wantFound(t, p.on, parts, even(parts, 4, 5, 9, 8))
			p.refused(t, even(parts, 4, 5, 9, 8), api.ErrRoom)
			p.refused(t, even(parts, 5, 9, 9, 8), api.ErrRoom)
		}
	}
}

func TestSaveOfADiskThatIsDown(t *testing.T) {
	for parts := 1; parts <= 2; parts++ {
		for _, n := range slices.Concat(wrongNotes(parts), strayNotes(parts), nextNotes(parts)) {
			for _, gen := range []uint64{1, most} {
				p := heldPairing(t, parts, gen, 1)
				p.turn(false)
				p.refused(t, n, api.ErrDown)
				wantEnded(t, p.Journal, true)
				p.turn(true)
				p.refused(t, n, api.ErrDown)
				wantEnded(t, p.Journal, true)
				p.openAnew(t, parts, api.OK)
				wantEnded(t, p.Journal, false)
				p.look(t)
			}
		}
	}
}

func TestSaveOfAnEndedJournal(t *testing.T) {
	for parts := 1; parts <= 2; parts++ {
		p := heldPairing(t, parts, 1, 0)
		p.arm(0)
		p.refused(t, even(parts, 4, 5, 9, 8), api.ErrDown)
		for range 2 {
			for _, n := range slices.Concat(wrongNotes(parts), strayNotes(parts), nextNotes(parts)) {
				p.refused(t, n, api.ErrDown)
				wantEnded(t, p.Journal, true)
			}
			p.turn(true)
		}
	}
}

func TestARefusedNoteTakesNothingOfTheNumber(t *testing.T) {
	p := heldPairing(t, 1, 1, 0)
	p.arm(1)
	p.refused(t, one(4, 5, 4, 8), api.ErrArg)
	p.refused(t, one(4, 4, 9, 8), api.ErrOrder)
	p.keep(t, one(4, 5, 9, 8), api.OK)
	p.refused(t, one(5, 5, 9, 8), api.ErrOrder)
	p.keep(t, one(5, 9, 9, 8), api.ErrDown)
	p.look(t)
}

func TestSaveOnADiskOfOneBlock(t *testing.T) {
	d := loaded(t, textOf(1, one(3, 2, 5, 7)))
	j := wantOpen(t, d, 1, api.OK)
	// The other block isn't there: the disk says so, nothing is written, and the power is there still.
	d.Cut(0)
	for range 2 {
		wantSave(t, j, one(4, 5, 9, 8), api.ErrBlock)
		wantImage(t, d, textOf(1, one(3, 2, 5, 7)))
		wantNote(t, j, one(3, 2, 5, 7))
		wantEnded(t, j, false)
	}
	wantSave(t, j, one(4, 5, 4, 8), api.ErrArg)
	wantSave(t, j, one(5, 5, 9, 8), api.ErrOrder)
	d.Off()
	wantSave(t, j, one(4, 5, 9, 8), api.ErrDown)
	wantEnded(t, j, true)
}

// P18.4: what is saved.

func TestSaveOfNotesThatFollow(t *testing.T) {
	for parts := 1; parts <= 4; parts++ {
		for _, n := range nextNotes(parts) {
			for _, gen := range []uint64{1, 126, 127, 128, 16383, most - 1} {
				for home := range 2 {
					p := heldPairing(t, parts, gen, home)
					want := []string{"", ""}
					want[home], want[1-home] = textOf(gen, even(parts, 3, 2, 5, 7)), textOf(gen+1, n)
					p.arm(1)
					p.keep(t, n, api.OK)
					wantImage(t, p.on, want...)
					p.look(t)
					wantFound(t, p.on, parts, n)
				}
			}
		}
	}
}

func TestSavesInARow(t *testing.T) {
	p := newPairing(t, 3, 1)
	for _, c := range []struct {
		n    api.Note
		zero string
		one  string
	}{
		{one(0, 0, 0, 0), "\x01\x00\x00\x01\x00\x01\x00", "\x02\x00\x00\x01\x00\x01\x00"},
		{one(0, 0, 0, 300), "\x03\x00\xac\x02\x01\x00\x01\x00", "\x02\x00\x00\x01\x00\x01\x00"},
		{one(1, 0, 0, 300), "\x03\x00\xac\x02\x01\x00\x01\x00", "\x04\x01\xac\x02\x01\x00\x01\x00"},
		{one(2, 0, 127, 301), "\x05\x02\xad\x02\x01\x00\x01\x7f", "\x04\x01\xac\x02\x01\x00\x01\x00"},
		{one(3, 127, 128, 301), "\x05\x02\xad\x02\x01\x00\x01\x7f", "\x06\x03\xad\x02\x01\x7f\x01\x80\x01"},
		{one(4, 128, 256, 301), "\x07\x04\xad\x02\x01\x80\x01\x01\x80\x02", "\x06\x03\xad\x02\x01\x7f\x01\x80\x01"},
		{one(4, 128, 256, most), "\x07\x04\xad\x02\x01\x80\x01\x01\x80\x02", "\x08\x04\x80\x80\x80\x80\x80\x20\x01\x80\x01\x01\x80\x02"},
	} {
		p.keep(t, c.n, api.OK)
		wantImage(t, p.on, c.zero, c.one, "block C")
		p.look(t)
		wantFound(t, p.on, 1, c.n)
	}
	p = newPairing(t, 2, 2)
	p.keep(t, note(1, []int{0, 0}, []int{0, 5}, 1), api.OK)
	p.keep(t, note(2, []int{0, 5}, []int{3, 5}, 1), api.OK)
	wantImage(t, p.on, "\x03\x02\x01\x02\x00\x05\x02\x03\x05", "\x02\x01\x01\x02\x00\x00\x02\x00\x05")
}

func TestSaveWritesToTheOtherBlock(t *testing.T) {
	p := newPairing(t, 2, 1)
	for gen := uint64(2); gen < 400; gen++ {
		was := imageOf(p.on)
		n := one(int(gen)/2, min(max(int(gen)/2-1, 0), 256), min(int(gen)/2, 256), int(gen))
		p.keep(t, n, api.OK)
		home := int(gen-1) % 2
		is := imageOf(p.on)
		if is[home] != textOf(gen, n) || is[1-home] != was[1-home] {
			t.Fatalf("with the generation %d the notes are %q", gen, is)
		}
		if gen%5 == 0 {
			p.openAnew(t, 1, api.OK)
		}
		p.look(t)
	}
}

func TestSaveOfAllSmallNotes(t *testing.T) {
	ends := []int{-1, 0, 1, 2, 256, 257}
	lists := [][]int{nil, {0, 0}, {1, 1}}
	for _, end := range ends {
		lists = append(lists, []int{end})
	}
	for _, gen := range []uint64{1, most} {
		for _, held := range []api.Note{one(0, 0, 0, 0), one(0, 0, 0, 1), one(1, 0, 0, 1), one(1, 0, 1, 1), one(1, 1, 1, 0), one(2, 1, 2, 1), one(most, 1, 256, most), one(most-1, 1, 2, most)} {
			for _, batch := range []int{-1, 0, 1, 2, 3, most - 1, most, most + 1} {
				for _, attempts := range []int{-1, 0, 1, 2, most, most + 1} {
					for _, prev := range lists {
						for _, cur := range lists {
							p := openPairing(t, 1, "", textOf(gen, held))
							n := note(batch, prev, cur, attempts)
							wantSave(t, p.Journal, n, p.model.save(n))
							p.look(t)
						}
					}
				}
			}
		}
	}
}

// P18.5

func TestEnded(t *testing.T) {
	var none *Journal
	wantEnded(t, none, false)
	p := newPairing(t, 2, 1)
	wantEnded(t, p.Journal, false)
	p.keep(t, one(0, 0, 0, 1), api.OK)
	wantEnded(t, p.Journal, false)
	p.refused(t, one(9, 0, 0, 1), api.ErrOrder)
	p.refused(t, one(-1, 0, 0, 1), api.ErrArg)
	wantEnded(t, p.Journal, false)
	p.arm(0)
	wantEnded(t, p.Journal, false)
	p.keep(t, one(0, 0, 0, 2), api.ErrDown)
	wantEnded(t, p.Journal, true)
	p.turn(true)
	wantEnded(t, p.Journal, true)
	// It is the journal that is ended, not what is on the disk.
	p.openAnew(t, 1, api.OK)
	wantEnded(t, p.Journal, false)
	p.turn(false)
	wantEnded(t, p.Journal, false)
	p.keep(t, one(0, 0, 0, 2), api.ErrDown)
	wantEnded(t, p.Journal, true)
}

// P18.6

func TestThePowerGoesInASave(t *testing.T) {
	for parts := 1; parts <= 4; parts++ {
		for _, n := range nextNotes(parts) {
			for home := range 2 {
				p := heldPairing(t, parts, 6, home)
				before := p.Note()
				p.arm(0)
				p.refused(t, n, api.ErrDown)
				wantEnded(t, p.Journal, true)
				// On a disk that is made of the image, while the other one is down still.
				wantFound(t, p.on, parts, before)
				p.turn(true)
				p.refused(t, n, api.ErrDown)
				p.openAnew(t, parts, api.OK)
				wantNote(t, p.Journal, before)
				// And the note may be saved anew.
				p.keep(t, n, api.OK)
				p.look(t)
				wantFound(t, p.on, parts, n)
			}
		}
	}
}

func TestALossOfPowerBehindAnother(t *testing.T) {
	p := newPairing(t, 2, 1)
	for batch := 1; batch < 40; batch++ {
		for range batch%3 + 1 {
			before := p.Note()
			p.arm(0)
			p.refused(t, one(batch, batch-1, batch, batch), api.ErrDown)
			p.turn(true)
			wantFound(t, p.on, 1, before)
			p.openAnew(t, 1, api.OK)
			wantNote(t, p.Journal, before)
		}
		p.keep(t, one(batch, batch-1, batch, batch), api.OK)
		p.look(t)
	}
}

// state is a row of numbers, always the same ones.
type state uint64

func (s *state) below(n int) int {
	*s = *s*6364136223846793005 + 1442695040888963407
	return int(*s>>33) % n
}

// someNote: one of the notes behind held, or near one of these.
func (s *state) someNote(held api.Note) api.Note {
	n := twin(held)
	if s.below(3) > 0 {
		n.Attempts += s.below(3)
		if s.below(2) == 0 {
			n.Done.Batch, n.Done.Prev, n.Done.Cur = n.Done.Batch+1, n.Done.Cur, slices.Clone(n.Done.Cur)
			for i := range n.Done.Cur {
				n.Done.Cur[i] = min(256, n.Done.Cur[i]+s.below(3))
			}
		}
	}
	if s.below(4) == 0 {
		fields := []*int{&n.Attempts, &n.Done.Batch, &n.Done.Prev[s.below(len(n.Done.Prev))], &n.Done.Cur[s.below(len(n.Done.Cur))]}
		*fields[s.below(4)] += s.below(5) - 2
	}
	return n
}

// wantForward: neither batch nor attempts nor an end falls, and the batch goes up by one at most.
func wantForward(t *testing.T, was api.Note, is api.Note) {
	t.Helper()
	up := is.Done.Batch - was.Done.Batch
	if up < 0 || up > 1 || is.Attempts < was.Attempts {
		t.Errorf("behind %v is %v", was, is)
	}
	for i := range was.Done.Cur {
		if is.Done.Cur[i] < was.Done.Cur[i] || is.Done.Prev[i] < was.Done.Prev[i] {
			t.Errorf("behind %v is %v", was, is)
		}
	}
}

func TestALongRowOfCalls(t *testing.T) {
	for parts := 1; parts <= 4; parts++ {
		p := newPairing(t, 2, parts)
		s := state(parts)
		saved := 0
		for range 15000 {
			was := p.Note()
			switch s.below(12) {
			case 0:
				p.arm(s.below(3) - 1)
			case 1:
				p.turn(s.below(4) > 0)
			case 2, 3:
				p.openAnew(t, parts, p.model.open(parts))
			default:
				n := s.someNote(was)
				want := p.model.save(n)
				wantSave(t, p.Journal, n, want)
				if want == api.OK {
					saved++
				}
			}
			p.look(t)
			wantForward(t, was, p.Note())
			wantFound(t, p.on, parts, p.Note())
			if t.Failed() {
				t.FailNow()
			}
		}
		if saved < 1000 {
			t.Errorf("only %d notes were saved", saved)
		}
	}
}

// call is one of the things that may happen to a journal of one partition, told by its number.
func (p *pairing) call(t *testing.T, number int) {
	t.Helper()
	held := p.Note()
	end := held.Done.Cur[0]
	save := func(n api.Note) {
		t.Helper()
		wantSave(t, p.Journal, n, p.model.save(n))
	}
	switch number {
	case 0:
		save(one(held.Done.Batch, held.Done.Prev[0], end, held.Attempts+1))
	case 1:
		save(one(held.Done.Batch+1, end, end+100, held.Attempts))
	case 2:
		save(one(held.Done.Batch+1, end, end, held.Attempts+200))
	case 3:
		save(one(held.Done.Batch+2, end, end+1, held.Attempts))
	case 4:
		p.arm(0)
	case 5:
		p.arm(1)
	case 6:
		p.turn(!p.off)
	case 7:
		save(held)
	case 8:
		p.openAnew(t, 1, p.model.open(1))
	case 9:
		// Nothing is promised of the elder journal behind a Format that the power has cut.
		if !p.armed && !p.off {
			p.layOut(t, 1, api.OK)
		}
	}
}

func TestCallsInEveryOrder(t *testing.T) {
	for row := range 100000 {
		p := newPairing(t, 2, 1)
		for rest := row; rest > 0; rest /= 10 {
			p.call(t, rest%10)
		}
		p.look(t)
		wantFound(t, p.on, 1, p.Note())
		if t.Failed() {
			t.Fatalf("the calls %d, from the last digit on", row)
		}
	}
}

// P18.7

func TestAnswersStay(t *testing.T) {
	p := newPairing(t, 2, 2)
	p.keep(t, note(1, []int{0, 0}, []int{3, 4}, 1), api.OK)
	first, second := p.Note(), p.Note()
	spoil(first)
	if !same(second, note(1, []int{0, 0}, []int{3, 4}, 1)) {
		t.Errorf("a second answer has become %v", second)
	}
	// What comes behind an answer doesn't change it.
	p.keep(t, note(2, []int{3, 4}, []int{5, 6}, 2), api.OK)
	p.keep(t, note(3, []int{5, 6}, []int{7, 8}, 2), api.OK)
	if !same(second, note(1, []int{0, 0}, []int{3, 4}, 1)) {
		t.Errorf("an answer has become %v", second)
	}
	// The lists of one answer share nothing.
	third := p.Note()
	for i := range third.Done.Prev[:cap(third.Done.Prev)] {
		third.Done.Prev[:cap(third.Done.Prev)][i] = -9
	}
	_ = append(third.Done.Prev, -9, -9)
	if !slices.Equal(third.Done.Cur, []int{7, 8}) {
		t.Errorf("Cur has become %v", third.Done.Cur)
	}
	p.look(t)
}

func TestAnswersOfNewAndOpenedJournalsAreNewMemory(t *testing.T) {
	for parts := 1; parts <= 4; parts++ {
		p := newPairing(t, 2, parts)
		n := p.Note()
		n.Done.Prev[0] = 7
		if n.Done.Cur[0] != 0 {
			t.Error("the lists of the first note are one")
		}
		spoil(n)
		p.look(t)
		p.keep(t, even(parts, 1, 0, 0, 3), api.OK)
		p.openAnew(t, parts, api.OK)
		spoil(p.Note())
		p.look(t)
		p.keep(t, even(parts, 2, 0, 9, 3), api.OK)
		p.look(t)
	}
}

func TestAnAnswerMayBeHandedIn(t *testing.T) {
	p := newPairing(t, 2, 2)
	p.keep(t, note(1, []int{0, 0}, []int{3, 4}, 1), api.OK)
	n := p.Note()
	n.Attempts = 5
	if e := p.Save(n); e != api.OK {
		t.Errorf("Save of an answer is %d", e)
	}
	p.model.save(n)
	spoil(n)
	p.look(t)
}

func TestOneListAsBothEnds(t *testing.T) {
	p := newPairing(t, 2, 2)
	p.keep(t, note(1, []int{0, 0}, []int{3, 4}, 1), api.OK)
	list := []int{3, 4, 3, 4}
	n := note(2, list[:2], list[:2], 1)
	p.model.save(n)
	if e := p.Save(n); e != api.OK || !slices.Equal(list, []int{3, 4, 3, 4}) {
		t.Errorf("Save is %d, and the list %v", e, list)
	}
	list[0] = 9
	answer := p.Note()
	answer.Done.Prev[0] = 8
	if answer.Done.Cur[0] != 3 {
		t.Error("the lists of an answer are one")
	}
	p.look(t)
}

func TestTwoJournals(t *testing.T) {
	a, b := newPairing(t, 2, 1), newPairing(t, 2, 1)
	a.keep(t, one(1, 0, 3, 1), api.OK)
	b.look(t)
	b.keep(t, one(0, 0, 0, 9), api.OK)
	a.turn(false)
	a.keep(t, one(2, 3, 4, 1), api.ErrDown)
	a.look(t)
	b.keep(t, one(1, 0, 0, 9), api.OK)
	b.look(t)
}
