package pages

import (
	"math"
	"slices"
	"strings"
	"testing"

	"reprise/api"
	"reprise/disk"
)

// The four examples.

// exampleBook is the book of the examples behind the Puts of the second one.
func exampleBook(t *testing.T) (*disk.Disk, *Book) {
	t.Helper()
	d, _ := disk.New(6)
	b, e := Format(d, 2)
	if b == nil || e != api.OK {
		t.Fatalf("Format(d, 2) is %v, %d", b, e)
	}
	wantImage(t, d, "\x01\x02\x00\x00", "", "", "", "", "")
	wantPut(t, b, []laid{{0, "x"}, {1, "y"}}, api.OK)
	wantImage(t, d, "\x01\x02\x00\x00", "\x02\x02\x02\x03", "x", "y", "", "")
	if n := b.Used(); n != 2 {
		t.Errorf("Used() is %d", n)
	}
	wantPut(t, b, []laid{{0, "z"}}, api.OK)
	wantImage(t, d, "\x03\x02\x04\x03", "\x02\x02\x02\x03", "x", "y", "z", "")
	wantPut(t, b, []laid{{1, ""}, {0, "w"}}, api.OK)
	wantImage(t, d, "\x03\x02\x04\x03", "\x04\x02\x02\x00", "w", "y", "z", "")
	wantGet(t, b, 1, "", api.OK)
	return d, b
}

func TestExampleFormatAndPut(t *testing.T) {
	d, _ := disk.New(6)
	if b, e := Format(d, 3); b != nil || e != api.ErrRoom {
		t.Errorf("Format(d, 3) is %v, %d", b, e)
	}
	if b, e := Format(d, 0); b != nil || e != api.ErrArg {
		t.Errorf("Format(d, 0) is %v, %d", b, e)
	}
	exampleBook(t)
}

func TestExampleThePowerGoes(t *testing.T) {
	d, b := exampleBook(t)
	d.Cut(1)
	wantPut(t, b, []laid{{0, "q"}}, api.ErrDown)
	wantImage(t, d, "\x03\x02\x04\x03", "\x04\x02\x02\x00", "w", "q", "z", "")
	wantEnded(t, b, true)
	d.On()
	b, e := Open(d)
	if b == nil || e != api.OK {
		t.Fatalf("Open(d) is %v, %d", b, e)
	}
	wantGet(t, b, 0, "w", api.OK)
	wantGet(t, b, 1, "", api.OK)
}

func TestExampleRefused(t *testing.T) {
	d, b := exampleBook(t)
	was := imageOf(d)
	wantPut(t, b, []laid{{0, "a"}, {2, "b"}}, api.ErrPage)
	wantPut(t, b, []laid{{0, "a"}, {0, "b"}}, api.ErrTwice)
	wantPut(t, b, nil, api.OK)
	wantImage(t, d, was...)
	wantGet(t, b, 0, "w", api.OK)
}

// P9.1

func TestFormatOfEachNumber(t *testing.T) {
	for pages := 1; pages <= 8; pages++ {
		for _, blocks := range []int{2 + 2*pages, 3 + 2*pages, 18, 63, 64} {
			p := diskPairing(t, named(blocks))
			want := named(blocks)
			want[0], want[1] = string(append([]byte{1, byte(pages)}, make([]byte, pages)...)), ""
			p.layOut(t, pages, api.OK)
			// Two writes, no read, and all other blocks as they were.
			if r, w := p.on.Reads(), p.on.Writes(); r != 0 || w != 2 {
				t.Errorf("Format(%d) reads %d blocks and writes %d", pages, r, w)
			}
			wantImage(t, p.on, want...)
			p.hold(t)
			p.found(t, make([]string, pages))
		}
	}
}

func TestFormatOfNoNumber(t *testing.T) {
	for _, n := range noCounts() {
		// It is told ahead of the room and of the power.
		for _, blocks := range []int{1, 2, 4, 18, 64} {
			for _, on := range []bool{true, false} {
				p := diskPairing(t, named(blocks))
				p.turn(on)
				p.arm(0)
				p.layOut(t, n, api.ErrArg)
				p.lookAtDisk(t)
			}
		}
	}
}

func TestFormatWithoutRoom(t *testing.T) {
	for pages := 1; pages <= 8; pages++ {
		for blocks := 1; blocks < 2+2*pages; blocks++ {
			// It is told ahead of the power.
			for _, on := range []bool{true, false} {
				p := diskPairing(t, named(blocks))
				p.turn(on)
				p.arm(0)
				p.layOut(t, pages, api.ErrRoom)
				p.lookAtDisk(t)
			}
		}
	}
}

func TestFormatOfNoDisk(t *testing.T) {
	for _, n := range append(noCounts(), 1, 2, 8) {
		if b, e := Format(nil, n); b != nil || e != api.ErrNil {
			t.Errorf("Format(nil, %d) is %v, %d", n, b, e)
		}
	}
}

func TestFormatOfADiskThatIsDown(t *testing.T) {
	for _, pages := range []int{1, 2, 8} {
		p := diskPairing(t, named(2+2*pages))
		p.turn(false)
		p.layOut(t, pages, api.ErrDown)
		p.lookAtDisk(t)
		p.turn(true)
		p.layOut(t, pages, api.OK)
		p.hold(t)
	}
}

func TestFormatWhileThePowerGoes(t *testing.T) {
	for _, pages := range []int{1, 2, 8} {
		blocks := 2 + 2*pages
		for n, want := range []func([]string){
			func([]string) {},
			func(image []string) { image[1] = "" },
		} {
			p := diskPairing(t, named(blocks))
			image := named(blocks)
			want(image)
			p.arm(n)
			p.layOut(t, pages, api.ErrDown)
			wantImage(t, p.on, image...)
			p.lookAtDisk(t)
			p.turn(true)
			p.layOut(t, pages, api.OK)
			p.hold(t)
		}
		// Two writes are all that it needs.
		p := diskPairing(t, named(blocks))
		p.arm(2)
		p.layOut(t, pages, api.OK)
		p.hold(t)
		p.lay(t, api.ErrDown, laid{0, "x"})
		p.look(t)
	}
}

func TestFormatOverABook(t *testing.T) {
	for puts := range 5 {
		p := newPairing(t, 8, 3)
		for i := range puts {
			p.lay(t, api.OK, laid{i % 3, named(8)[i]})
		}
		for _, pages := range []int{1, 2, 3} {
			p.layOut(t, pages, api.OK)
			p.hold(t)
			p.found(t, make([]string, pages))
			p.lay(t, api.OK, laid{0, "anew"})
			p.hold(t)
		}
	}
}

// P9.2

func TestOpenOfNoDisk(t *testing.T) {
	if b, e := Open(nil); b != nil || e != api.ErrNil {
		t.Errorf("Open(nil) is %v, %d", b, e)
	}
}

func TestOpenOfADiskThatIsDown(t *testing.T) {
	for _, image := range [][]string{
		{"\x01\x01\x00", "", "", ""}, {"", "", "", ""}, {""}, {rootText(2, 2), rootText(3, 3), "c", "d"},
	} {
		p := diskPairing(t, image)
		p.turn(false)
		p.openAnew(t, api.ErrDown)
		p.lookAtDisk(t)
	}
}

// wantNoRoot: a text that is no right root is none, alone, twice, and beside a right one in either block.
func wantNoRoot(t *testing.T, text string, blocks int) {
	t.Helper()
	for _, image := range [][2]string{{text, ""}, {"", text}, {text, text}} {
		p := diskPairing(t, append(image[:], named(blocks)[2:]...))
		p.openAnew(t, api.ErrRoot)
		p.lookAtDisk(t)
	}
	if blocks < 4 {
		return
	}
	for home := range 2 {
		image := append([]string{text, text}, named(blocks)[2:]...)
		image[home] = rootText(1, 3)
		p := openPairing(t, image)
		wantGet(t, p.Book, 0, "block D", api.OK)
		p.model.get(0)
		p.hold(t)
		p.lay(t, api.OK, laid{0, "new"})
		p.hold(t)
	}
}

func TestOpenOfNoRoot(t *testing.T) {
	for _, text := range []string{
		"", "\x00", "\x01", "\x01\x00", "x", "no root", long(1024), strings.Repeat("\x00", 1024), strings.Repeat("\xff", 1024),
		// Bytes behind it.
		"\x01\x01\x00\x00", "\x01\x01\x02\x00", "\x01\x02\x02\x03\x04", rootText(5, 2, 3) + strings.Repeat("\x00", 1000),
		// Numbers that aren't in their form.
		"\x81\x00\x01\x02", "\x01\x81\x00\x02", "\x01\x01\x82\x00", "\x80\x00\x01\x02", "\x01\x01\x80\x00",
		"\xff\xff\xff\xff\xff\xff\xff\xff\xff\x02\x01\x02", "\x01\x01\xff\xff\xff\xff\xff\xff\xff\xff\xff\x02",
		// Numbers that end too early.
		"\x81", "\x01\x81", "\x01\x01\x82", "\x80\x80\x80\x80\x80\x80\x80\x80\x80", "\x01\x02\x02\x80",
		// Generations.
		"\x00\x01\x02", rootText(0, 2, 3), rootText(most+1, 2), rootText(most+1, 2, 3), rootText(1<<41, 2), rootText(1<<62, 2),
		rootText(1<<63, 2), rootText(1<<63+1, 2), rootText(math.MaxUint64, 2), rootText(math.MaxUint64), rootText(1<<32*256+1, 2),
		// Pages.
		rootText(1), rootText(2), rootText(most), rootText(1, 0, 0, 0, 0, 0, 0, 0, 0, 0), rootText(1, 2, 3, 4, 5, 6, 7, 8, 9, 10),
		rootText(2, make([]int, 64)...), rootText(2, make([]int, 1000)...),
		"\x01\xff\xff\xff\xff\xff\xff\xff\xff\xff\x01\x02", "\x01\x80\x80\x80\x80\x80\x80\x80\x80\x40\x02",
		// Blocks.
		rootText(1, 1), rootText(1, 2, 1), rootText(1, 1, 2), rootText(1, 0, 1), rootText(1, 64), rootText(1, 65), rootText(1, 2, 64),
		rootText(1, 256), rootText(1, 258), rootText(1, 1<<16+2), rootText(1, 1<<32+2), rootText(1, 1<<62), rootText(1, 1<<62+2), rootText(1, math.MaxInt),
		"\x01\x01\x82\x80\x80\x80\x80\x80\x80\x80\x80\x01", "\x01\x01\xff\xff\xff\xff\xff\xff\xff\xff\xff\x01",
		// Blocks that stand twice.
		rootText(1, 2, 2), rootText(1, 2, 3, 2), rootText(1, 3, 2, 2), rootText(1, 0, 2, 0, 2), rootText(1, 63, 0, 63), rootText(1, 2, 3, 4, 5, 6, 7, 8, 2), rootText(1, 2, 3, 4, 5, 6, 7, 8, 8),
	} {
		wantNoRoot(t, text, 64)
	}
}

func TestOpenOfRootsThatAreCut(t *testing.T) {
	for _, text := range []string{rootText(1, 2), rootText(300, 2, 0, 3), rootText(most, 2, 3, 4, 5, 63, 62, 61, 60), rootText(most, 0, 0, 0, 0, 0, 0, 0, 0)} {
		for n := range text {
			wantNoRoot(t, text[:n], 64)
		}
		wantNoRoot(t, text+"\x00", 64)
		wantNoRoot(t, text+"\x02", 64)
		wantNoRoot(t, text+text, 64)
		wantNoRoot(t, "\x00"+text, 64)
	}
}

func TestOpenOfFewBlocks(t *testing.T) {
	for pages := 1; pages <= 8; pages++ {
		for blocks := 2; blocks < 2+2*pages; blocks++ {
			wantNoRoot(t, rootText(1, make([]int, pages)...), blocks)
			wantNoRoot(t, rootText(most, make([]int, pages)...), blocks)
		}
		p := openPairing(t, append([]string{rootText(1, make([]int, pages)...), ""}, make([]string, 2*pages)...))
		p.hold(t)
	}
	for _, text := range []string{"", "\x01\x00", "\x01\x01\x00", "\x01\x01\x02", long(1024)} {
		p := diskPairing(t, []string{text})
		p.openAnew(t, api.ErrRoot)
		p.lookAtDisk(t)
	}
}

func TestOpenOfEachBlock(t *testing.T) {
	for _, blocks := range []int{6, 7, 18, 63, 64} {
		for block := range 200 {
			for _, text := range []string{rootText(7, 0, block), rootText(7, block, 0)} {
				if block == 1 || block >= blocks {
					wantNoRoot(t, text, blocks)
					continue
				}
				p := openPairing(t, append([]string{"", text}, named(blocks)[2:]...))
				p.hold(t)
				if want := min(block, 1); p.Used() != want {
					t.Errorf("Used() with a page in block %d is %d", block, p.Used())
				}
			}
		}
	}
}

func TestOpenOfGenerations(t *testing.T) {
	for _, gen := range []uint64{1, 2, 127, 128, 255, 256, 1<<16 + 1, 1 << 32, most - 2, most - 1, most} {
		for _, text := range []string{rootText(gen, 2), rootText(gen, 0), rootText(gen, 3, 2), rootText(gen, 0, 0), rootText(gen, 5, 0)} {
			for home := range 2 {
				image := named(6)
				image[home], image[1-home] = text, ""
				openPairing(t, image).hold(t)
			}
		}
	}
}

func TestOpenOfTwoRightRoots(t *testing.T) {
	gens := []uint64{1, 2, 3, 127, 128, 129, 255, 256, 1<<32 - 1, 1 << 32, 1<<32 + 1, most - 1, most}
	for _, zero := range gens {
		for _, one := range gens {
			for _, blocks := range [][2][]int{{{2}, {3}}, {{2, 0}, {3}}, {{2}, {3, 4}}, {{2}, {0}}, {{0, 5}, {5, 0}}, {{2, 3}, {3, 2}}} {
				p := openPairing(t, append([]string{rootText(zero, blocks[0]...), rootText(one, blocks[1]...)}, named(6)[2:]...))
				// Told beside the model: block 0's, if both are the same.
				want := blocks[0]
				if one > zero {
					want = blocks[1]
				}
				if n := p.Pages(); n != len(want) {
					t.Errorf("of the generations %d and %d the book has %d pages", zero, one, n)
				}
				p.hold(t)
				if max(zero, one) == most {
					p.lay(t, api.ErrRoom, laid{0, "new"})
				} else {
					p.lay(t, api.OK, laid{0, "new"})
				}
				p.hold(t)
			}
		}
	}
}

func TestOpenReadsTwoBlocksAndWritesNone(t *testing.T) {
	for _, image := range [][]string{
		{"\x01\x01\x02", "\x02\x01\x03", "c", "d"}, {"\x01\x01\x02", "", "c", "d"}, {"", "\x02\x01\x03", "c", "d"}, {"\x02\x01\x02", "\x01\x01\x03", "c", "d"},
	} {
		d := loaded(t, image)
		d.Cut(0)
		for i := 1; i <= 3; i++ {
			if b, e := Open(d); b == nil || e != api.OK || d.Reads() != 2*i || d.Writes() != 0 || d.Down() {
				t.Errorf("Open of %q is %v, %d; %d reads, %d writes", image, b, e, d.Reads(), d.Writes())
			}
		}
		wantImage(t, d, image...)
	}
	d := loaded(t, make([]string, 4))
	if b, e := Open(d); b != nil || e != api.ErrRoot || d.Reads() != 2 || d.Writes() != 0 {
		t.Errorf("Open of no root is %v, %d; %d reads, %d writes", b, e, d.Reads(), d.Writes())
	}
}

// openAsModel: Open of two texts in the blocks 0 and 1 is what the model says, whatever that is.
func openAsModel(t *testing.T, zero string, one string, blocks int) {
	t.Helper()
	p := diskPairing(t, append([]string{zero, one}, named(blocks)[2:]...))
	want := p.model.open()
	b, e := Open(p.on)
	if e != want || (b != nil) != (want == api.OK) {
		t.Fatalf("Open of %q and %q on %d blocks is %v, %d, not %d", zero, one, blocks, b, e, want)
	}
	if b == nil {
		p.lookAtDisk(t)
		return
	}
	p.Book = b
	p.hold(t)
}

func TestOpenOfShortTexts(t *testing.T) {
	letters := []byte{0, 1, 2, 3, 4, 5, 6, 0x80, 0x82, 0xff}
	texts := []string{""}
	for from, n := 0, 0; n < 5; n++ {
		to := len(texts)
		for ; from < to; from++ {
			for _, c := range letters {
				texts = append(texts, texts[from]+string([]byte{c}))
			}
		}
	}
	for i, text := range texts {
		blocks := 4 + i%3
		if _, right := told(text, blocks); !right && i%16 > 0 {
			continue
		}
		openAsModel(t, text, "", blocks)
		openAsModel(t, "\x02\x01\x03", text, blocks)
		openAsModel(t, text, "\x03\x01\x02", blocks)
	}
}

func TestOpenOfRootsWithAByteChanged(t *testing.T) {
	for _, text := range []string{rootText(2, 2, 3), rootText(300, 0, 5), rootText(most, 4, 0), rootText(3, 2, 2)} {
		for i := range text {
			for c := range 256 {
				changed := []byte(text)
				changed[i] = byte(c)
				openAsModel(t, string(changed), "\x02\x01\x04", 6)
				openAsModel(t, "\x02\x01\x04", string(changed), 6)
			}
		}
	}
}

// The nil book.

func TestNilBook(t *testing.T) {
	var none *Book
	for _, page := range append(noPages(1), 0, 1, 7) {
		wantGet(t, none, page, "", api.ErrNil)
		for _, text := range append(tooLong(), "", "ab") {
			wantPut(t, none, []laid{{page, text}}, api.ErrNil)
			wantPut(t, none, []laid{{page, text}, {page, text}}, api.ErrNil)
		}
	}
	wantPut(t, none, nil, api.ErrNil)
	if e := none.Put(nil); e != api.ErrNil {
		t.Errorf("Put(nil) is %d", e)
	}
	wantEnded(t, none, false)
	if none.Pages() != 0 || none.Used() != 0 {
		t.Errorf("Pages() and Used() are %d and %d", none.Pages(), none.Used())
	}
}

// P9.3

func TestGetOfEachPage(t *testing.T) {
	for pages := 1; pages <= 8; pages++ {
		p := newPairing(t, 2+2*pages, pages)
		for i := range pages {
			reads := p.on.Reads()
			p.fetch(t, i, api.OK)
			if n := p.on.Reads() - reads; n != 0 {
				t.Errorf("Get(%d) of a page without bytes reads %d blocks", i, n)
			}
			p.lay(t, api.OK, laid{i, long(i + 1)})
			reads = p.on.Reads()
			p.fetch(t, i, api.OK)
			p.fetch(t, i, api.OK)
			if n := p.on.Reads() - reads; n != 2 {
				t.Errorf("two of Get(%d) read %d blocks", i, n)
			}
			p.hold(t)
		}
	}
}

// filled is a book all of whose pages have bytes.
func filled(t *testing.T, blocks int, pages int) *pairing {
	t.Helper()
	p := newPairing(t, blocks, pages)
	p.lay(t, api.OK, everyPage(pages, "old")...)
	return p
}

// everyPage: a write of each page, each of another text.
func everyPage(pages int, word string) []laid {
	var list []laid
	for i := range pages {
		list = append(list, laid{i, word + string(rune('0'+i))})
	}
	return list
}

func TestGetOfNoPage(t *testing.T) {
	for pages := 1; pages <= 8; pages++ {
		p := filled(t, 2+2*pages, pages)
		reads := p.on.Reads()
		for _, i := range noPages(pages) {
			wantGet(t, p.Book, i, "", api.ErrPage)
		}
		if p.on.Reads() != reads {
			t.Errorf("Get of no page reads")
		}
		p.hold(t)
	}
}

func TestGetOfAPageWhoseBlockHasNoBytes(t *testing.T) {
	p := openPairing(t, []string{rootText(3, 4, 0), "", "c", "d", "", "f"})
	p.fetch(t, 0, api.OK)
	wantGet(t, p.Book, 0, "", api.OK)
	if n := p.on.Reads(); n != 4 {
		t.Errorf("an Open and two Gets read %d blocks", n)
	}
	if n := p.Used(); n != 1 {
		t.Errorf("Used() is %d", n)
	}
}

func TestGetOfFullPages(t *testing.T) {
	p := newPairing(t, 64, 8)
	for _, count := range []int{1, 2, 255, 256, 1023, 1024} {
		for i := range 8 {
			p.lay(t, api.OK, laid{i, long(count)})
			p.fetch(t, i, api.OK)
		}
		p.hold(t)
		p.found(t, slices.Repeat([]string{long(count)}, 8))
	}
}

func TestGetWhileTheDiskIsDown(t *testing.T) {
	// Of a page with bytes, of one without, and of none: that it is down is told ahead of all else.
	for _, page := range append(noPages(3), 0, 1, 2) {
		p := newPairing(t, 8, 3)
		p.lay(t, api.OK, laid{0, "ab"}, laid{2, "cd"})
		wantEnded(t, p.Book, false)
		p.turn(false)
		// The book is ended by the call, not by the power.
		wantEnded(t, p.Book, false)
		p.look(t)
		p.fetch(t, page, api.ErrDown)
		wantEnded(t, p.Book, true)
		p.look(t)
		p.turn(true)
		wantEnded(t, p.Book, true)
		for i := range 4 {
			p.fetch(t, i, api.ErrDown)
			p.lay(t, api.ErrDown, laid{i, "x"})
		}
		p.lay(t, api.ErrDown)
		p.look(t)
		if p.Used() != 2 || p.Pages() != 3 {
			t.Errorf("Used() and Pages() of an ended book are %d and %d", p.Used(), p.Pages())
		}
		p.openAnew(t, api.OK)
		p.hold(t)
	}
}

func TestAPowerThatGoesBetweenCalls(t *testing.T) {
	// A book that is told nothing of it isn't ended.
	p := filled(t, 8, 3)
	for range 3 {
		p.turn(false)
		p.look(t)
		p.turn(true)
		p.hold(t)
		p.lay(t, api.OK, laid{1, "ab"})
		p.hold(t)
	}
}

// P9.4: what is refused.

func TestPutOfNoWrites(t *testing.T) {
	p := filled(t, 8, 3)
	p.arm(0)
	p.lay(t, api.OK)
	if p.Put(nil) != api.OK || p.Put([]api.PageWrite{}) != api.OK {
		t.Errorf("Put of no writes is refused")
	}
	p.hold(t)
	p = openPairing(t, []string{rootText(most, 2), "", "c", "d"})
	p.lay(t, api.OK)
	p.hold(t)
	p.turn(false)
	p.lay(t, api.ErrDown)
	wantEnded(t, p.Book, true)
	p.turn(true)
	p.lay(t, api.ErrDown)
	p.look(t)
}

// refused puts lists that are refused: nothing is read or written, and the power, which would go, stays.
func refused(t *testing.T, p *pairing, want api.Errno, list ...laid) {
	t.Helper()
	p.arm(0)
	p.lay(t, want, list...)
	p.arm(-1)
	p.look(t)
}

func TestPutOfNoPage(t *testing.T) {
	for pages := 1; pages <= 8; pages++ {
		p := filled(t, 2+2*pages, pages)
		for _, i := range noPages(pages) {
			refused(t, p, api.ErrPage, laid{i, "ab"})
			refused(t, p, api.ErrPage, laid{i, ""})
			refused(t, p, api.ErrPage, laid{0, "ab"}, laid{i, "cd"})
			refused(t, p, api.ErrPage, laid{i, "cd"}, laid{0, "ab"})
			refused(t, p, api.ErrPage, append(everyPage(pages, "new"), laid{i, ""})...)
			// Ahead of twice and of too long, in one write.
			refused(t, p, api.ErrPage, laid{i, long(1025)})
			refused(t, p, api.ErrPage, laid{i, "ab"}, laid{i, long(1025)})
		}
		p.hold(t)
	}
}

func TestPutOfAPageTwice(t *testing.T) {
	for pages := 1; pages <= 8; pages++ {
		p := filled(t, 2+2*pages, pages)
		for i := range pages {
			for _, first := range []string{"", "ab", "old0", long(1024)} {
				for _, second := range append(tooLong(), "", "ab", "cd", long(1024)) {
					refused(t, p, api.ErrTwice, laid{i, first}, laid{i, second})
					refused(t, p, api.ErrTwice, append(everyPage(pages, "new"), laid{i, second})...)
				}
			}
		}
		p.hold(t)
	}
}

func TestPutOfTooLongPages(t *testing.T) {
	for pages := 1; pages <= 8; pages++ {
		p := filled(t, 2+2*pages, pages)
		for i := range pages {
			for _, text := range tooLong() {
				refused(t, p, api.ErrLong, laid{i, text})
				list := everyPage(pages, "new")
				list[i].text = text
				refused(t, p, api.ErrLong, list...)
			}
		}
		p.hold(t)
	}
}

func TestPutOfTwoFaults(t *testing.T) {
	p := filled(t, 8, 3)
	noPage, tooMuch := laid{3, "x"}, laid{1, long(1025)}
	once, twice := laid{0, "a"}, laid{0, "b"}
	for _, c := range []struct {
		list []laid
		want api.Errno
	}{
		{[]laid{noPage, tooMuch}, api.ErrPage},
		{[]laid{tooMuch, noPage}, api.ErrLong},
		{[]laid{once, twice, noPage}, api.ErrTwice},
		{[]laid{once, noPage, twice}, api.ErrPage},
		{[]laid{once, twice, tooMuch}, api.ErrTwice},
		{[]laid{once, tooMuch, twice}, api.ErrLong},
		{[]laid{once, {0, long(1025)}}, api.ErrTwice},
		{[]laid{tooMuch, {1, "x"}}, api.ErrLong},
		{[]laid{tooMuch, tooMuch}, api.ErrLong},
		{[]laid{noPage, noPage}, api.ErrPage},
		{[]laid{{3, long(1025)}, tooMuch}, api.ErrPage},
		{[]laid{{2, ""}, {1, ""}, {2, ""}, noPage}, api.ErrTwice},
		{[]laid{{2, ""}, {1, ""}, noPage, {2, ""}}, api.ErrPage},
	} {
		refused(t, p, c.want, c.list...)
	}
	p.hold(t)
}

func TestPutOfLongLists(t *testing.T) {
	p := filled(t, 18, 8)
	all := everyPage(8, "new")
	for _, count := range []int{9, 16, 64, 1000} {
		var list []laid
		for i := range count {
			list = append(list, all[i%8])
		}
		refused(t, p, api.ErrTwice, list...)
		list[8].page = 8
		refused(t, p, api.ErrPage, list...)
		list[7].text = long(1025)
		refused(t, p, api.ErrLong, list...)
	}
	p.hold(t)
}

func TestPutAtTheGreatestGeneration(t *testing.T) {
	for home := range 2 {
		image := named(6)
		image[home], image[1-home] = rootText(most, 2, 0), rootText(most-1, 3, 4)
		p := openPairing(t, image)
		for _, list := range [][]laid{{{0, "x"}}, {{0, ""}}, {{1, ""}}, {{1, "x"}, {0, "y"}}} {
			refused(t, p, api.ErrRoom, list...)
		}
		// What is wrong with the list is told ahead of it.
		refused(t, p, api.ErrPage, laid{2, "x"})
		refused(t, p, api.ErrTwice, laid{0, "x"}, laid{0, "x"})
		refused(t, p, api.ErrLong, laid{0, long(1025)})
		wantEnded(t, p.Book, false)
		p.hold(t)
		p.turn(false)
		p.lay(t, api.ErrDown, laid{0, "x"})
		p.look(t)
	}
	// One below it there is room for one more.
	p := openPairing(t, []string{rootText(most-1, 2, 0), "", "c", "d", "e", "f"})
	p.lay(t, api.OK, laid{1, "x"})
	p.hold(t)
	refused(t, p, api.ErrRoom, laid{1, "y"})
	p.hold(t)
	p.found(t, []string{"c", "x"})
}

func TestPutOfADiskThatIsDown(t *testing.T) {
	for _, list := range [][]laid{
		nil, {{0, "x"}}, {{0, ""}}, {{3, "x"}}, {{-1, "x"}}, {{0, "x"}, {0, "x"}}, {{0, long(1025)}}, everyPage(3, "new"),
	} {
		p := filled(t, 8, 3)
		p.turn(false)
		p.lay(t, api.ErrDown, list...)
		wantEnded(t, p.Book, true)
		p.look(t)
		p.turn(true)
		p.lay(t, api.ErrDown, list...)
		p.fetch(t, 0, api.ErrDown)
		p.look(t)
		p.openAnew(t, api.OK)
		p.hold(t)
	}
}

// P9.4: what is put.

func TestPutOfOnePage(t *testing.T) {
	for pages := 1; pages <= 8; pages++ {
		for i := range pages {
			p := newPairing(t, 2+2*pages, pages)
			for _, text := range []string{"ab", "", "", "c", "c", long(1024), "d", ""} {
				reads, writes := p.on.Reads(), p.on.Writes()
				p.lay(t, api.OK, laid{i, text})
				if n := p.on.Writes() - writes; p.on.Reads() != reads || n != 1+min(len(text), 1) {
					t.Errorf("Put of %d bytes reads %d blocks and writes %d", len(text), p.on.Reads()-reads, n)
				}
				p.hold(t)
				p.found(t, p.texts())
			}
		}
	}
}

func TestPutOfAllPages(t *testing.T) {
	for pages := 1; pages <= 8; pages++ {
		// A disk of just so many blocks as a book wants has room for all pages anew, time and again.
		for _, blocks := range []int{2 + 2*pages, 64} {
			p := newPairing(t, blocks, pages)
			for _, word := range []string{"one", "two", "three", "four"} {
				p.lay(t, api.OK, everyPage(pages, word)...)
				p.hold(t)
				list := everyPage(pages, word+" again")
				slices.Reverse(list)
				p.lay(t, api.OK, list...)
				p.hold(t)
				p.found(t, p.texts())
			}
		}
	}
}

func TestPutTakesTheLowestFreeBlocksInTheListsOrder(t *testing.T) {
	for _, c := range []struct {
		blocks []int
		list   []laid
		want   []int
	}{
		{[]int{0, 0, 0}, []laid{{2, "a"}, {0, "b"}, {1, "c"}}, []int{3, 4, 2}},
		{[]int{2, 3, 4}, []laid{{2, "a"}, {0, "b"}, {1, "c"}}, []int{6, 7, 5}},
		{[]int{5, 6, 7}, []laid{{0, "a"}, {1, "b"}, {2, "c"}}, []int{2, 3, 4}},
		{[]int{3, 5, 7}, []laid{{1, "a"}, {2, "b"}, {0, "c"}}, []int{6, 2, 4}},
		{[]int{7, 2, 4}, []laid{{1, "a"}, {0, "b"}}, []int{5, 3, 4}},
		{[]int{7, 2, 4}, []laid{{0, ""}, {1, "a"}, {2, "b"}}, []int{0, 3, 5}},
		{[]int{2, 0, 4}, []laid{{0, ""}, {2, ""}, {1, "a"}}, []int{0, 3, 0}},
		{[]int{2, 3, 4}, []laid{{0, ""}, {1, ""}, {2, "a"}}, []int{0, 0, 5}},
		{[]int{2, 3, 4}, []laid{{0, ""}, {1, ""}, {2, ""}}, []int{0, 0, 0}},
		{[]int{0, 0, 2}, []laid{{0, "a"}}, []int{3, 0, 2}},
		{[]int{0, 0, 3}, []laid{{0, "a"}}, []int{2, 0, 3}},
	} {
		for home := range 2 {
			image := named(8)
			image[home], image[1-home] = rootText(9, c.blocks...), "no root"
			p := openPairing(t, image)
			p.lay(t, api.OK, c.list...)
			image[1-home] = rootText(10, c.want...)
			for _, w := range c.list {
				if w.text != "" {
					image[c.want[w.page]] = w.text
				}
			}
			wantImage(t, p.on, image...)
			p.hold(t)
		}
	}
}

func TestPutWritesTheRootToTheOtherBlock(t *testing.T) {
	p := newPairing(t, 4, 1)
	for gen := uint64(2); gen < 300; gen++ {
		was := imageOf(p.on)
		p.lay(t, api.OK, laid{0, "x"})
		home := int(gen-1) % 2
		block := 2 + int(gen)%2
		is := imageOf(p.on)
		if is[home] != rootText(gen, block) || is[1-home] != was[1-home] {
			t.Fatalf("with the generation %d the roots are %q", gen, is[:2])
		}
	}
}

// P9.5

func TestUsed(t *testing.T) {
	p := newPairing(t, 8, 3)
	for _, c := range []struct {
		list []laid
		want int
	}{
		{nil, 0}, {[]laid{{1, ""}}, 0}, {[]laid{{1, "a"}}, 1}, {[]laid{{1, "b"}}, 1}, {[]laid{{0, "a"}, {2, "b"}}, 3},
		{[]laid{{0, ""}, {1, "c"}}, 2}, {[]laid{{1, ""}, {0, "d"}}, 2}, {everyPage(3, "e"), 3}, {[]laid{{0, ""}, {1, ""}, {2, ""}}, 0},
	} {
		p.lay(t, api.OK, c.list...)
		if n := p.Used(); n != c.want || p.Pages() != 3 {
			t.Errorf("behind %v Used() and Pages() are %d and %d", c.list, n, p.Pages())
		}
		wantEnded(t, p.Book, false)
	}
}

func TestUsedOfAnEndedBook(t *testing.T) {
	for writes := range 4 {
		p := newPairing(t, 8, 3)
		p.lay(t, api.OK, laid{0, "a"}, laid{1, "b"})
		p.arm(writes)
		p.lay(t, api.ErrDown, everyPage(3, "new")...)
		for range 2 {
			if p.Used() != 2 || p.Pages() != 3 {
				t.Errorf("Used() and Pages() are %d and %d", p.Used(), p.Pages())
			}
			wantEnded(t, p.Book, true)
			p.turn(true)
		}
	}
}

// P9.6

// changes are lists of writes for a book of four pages.
func changes() [][]laid {
	return [][]laid{
		{{0, "x"}},
		{{3, "x"}, {1, long(1024)}},
		{{2, ""}},
		{{2, ""}, {0, "y"}, {1, ""}},
		everyPage(4, "new"),
		{{3, "c"}, {2, "b"}, {1, "a"}, {0, long(1024)}},
		{{0, ""}, {1, ""}, {2, ""}, {3, ""}},
		{{0, "old0"}},
	}
}

// writesIn: how many blocks a change writes.
func writesIn(list []laid) int {
	n := 1
	for _, w := range list {
		n += min(len(w.text), 1)
	}
	return n
}

func TestThePowerGoesAtEveryWriteOfAPut(t *testing.T) {
	for ahead := range changes() {
		for _, list := range changes() {
			for n := range writesIn(list) {
				p := filled(t, 10, 4)
				p.lay(t, api.OK, changes()[ahead]...)
				before := p.texts()
				p.arm(n)
				p.lay(t, api.ErrDown, list...)
				p.look(t)
				// On a disk that is made of the image, while the other one is down still.
				p.found(t, before)
				p.turn(true)
				// It stays ended.
				wantEnded(t, p.Book, true)
				p.fetch(t, 0, api.ErrDown)
				p.lay(t, api.ErrDown, list...)
				p.lay(t, api.ErrDown)
				p.look(t)
				p.openAnew(t, api.OK)
				if !slices.Equal(p.texts(), before) {
					t.Errorf("the model has %q, not %q", p.texts(), before)
				}
				p.hold(t)
				// And the change may be made anew.
				p.lay(t, api.OK, list...)
				p.hold(t)
				p.found(t, p.texts())
			}
		}
	}
}

func TestAPutNeedsNoMoreWritesThanItNames(t *testing.T) {
	for _, list := range changes() {
		p := filled(t, 10, 4)
		p.arm(writesIn(list))
		p.lay(t, api.OK, list...)
		p.hold(t)
		after := p.texts()
		for _, w := range list {
			if after[w.page] != w.text {
				t.Errorf("page %d is %q, not %q", w.page, after[w.page], w.text)
			}
		}
		p.found(t, after)
		// The next one finds the power gone at its first write.
		p.lay(t, api.ErrDown, laid{0, ""})
		p.look(t)
		p.found(t, after)
	}
}

func TestALossOfPowerBehindAnother(t *testing.T) {
	for first := range 4 {
		for second := range 4 {
			p := filled(t, 8, 3)
			before := p.texts()
			for _, n := range []int{first, second, first} {
				p.arm(n)
				p.lay(t, api.ErrDown, everyPage(3, "lost")...)
				p.turn(true)
				p.found(t, before)
				p.openAnew(t, api.OK)
				p.hold(t)
			}
			p.lay(t, api.OK, everyPage(3, "new")...)
			p.found(t, []string{"new0", "new1", "new2"})
		}
	}
}

func TestManyPutsWithAnOpenBetweenThem(t *testing.T) {
	for _, pages := range []int{1, 2, 5, 8} {
		p := newPairing(t, 2+2*pages, pages)
		state := uint64(pages)
		for i := range 600 {
			state = state*6364136223846793005 + 1442695040888963407
			var list []laid
			for page := range pages {
				if state>>uint(20+page)&1 == 1 {
					list = append(list, laid{page, long(int(state>>uint(30+page)) % 40)})
				}
			}
			p.lay(t, api.OK, list...)
			p.look(t)
			p.found(t, p.texts())
			if i%3 == 0 {
				p.openAnew(t, api.OK)
				p.hold(t)
			}
		}
	}
}

// P9.7

func TestOneTextIntoAllPages(t *testing.T) {
	p := newPairing(t, 8, 3)
	text := roomy([]byte("abc"), '~')
	list := []api.PageWrite{{Page: 0, Data: text}, {Page: 1, Data: text}, {Page: 2, Data: text[:2]}}
	if e := p.Put(list); e != api.OK {
		t.Errorf("Put is %d", e)
	}
	p.model.put([]laid{{0, "abc"}, {1, "abc"}, {2, "ab"}})
	spoil(text)
	p.hold(t)
	p.lay(t, api.OK, laid{1, "x"})
	p.hold(t)
}

func TestAnswersStay(t *testing.T) {
	p := filled(t, 8, 3)
	one, _ := p.Get(0)
	two, _ := p.Get(0)
	other, _ := p.Get(1)
	p.reads += 3
	spoil(one)
	if string(two) != "old0" || string(other) != "old1" {
		t.Errorf("answers have become %q and %q", two, other)
	}
	p.hold(t)
	// What comes behind an answer doesn't change it; one may be handed in.
	for range 4 {
		p.lay(t, api.OK, everyPage(3, "new")...)
	}
	if string(two) != "old0" {
		t.Errorf("an answer has become %q", two)
	}
	if e := p.Put([]api.PageWrite{{Page: 2, Data: two}}); e != api.OK {
		t.Errorf("Put of an answer is %d", e)
	}
	p.model.put([]laid{{2, "old0"}})
	spoil(two)
	p.hold(t)
}

func TestTwoBooks(t *testing.T) {
	a, b := filled(t, 8, 3), filled(t, 8, 3)
	a.lay(t, api.OK, laid{0, "a"})
	b.lay(t, api.OK, laid{0, "b"}, laid{1, ""})
	a.turn(false)
	a.fetch(t, 0, api.ErrDown)
	a.look(t)
	b.hold(t)
}

func TestTwoBooksOutOfOneImage(t *testing.T) {
	image := []string{rootText(4, 2, 3), "", "c", "d", "e", "f"}
	a, b := openPairing(t, image), openPairing(t, image)
	a.lay(t, api.OK, laid{0, "a"}, laid{1, ""})
	a.hold(t)
	b.hold(t)
}

// P1 and all of them: calls in every order.

// call is one of the things that may happen to a book of two pages, told by its number.
func (p *pairing) call(t *testing.T, number int, text string) {
	t.Helper()
	put := func(list ...laid) {
		t.Helper()
		wantPut(t, p.Book, list, p.model.put(list))
	}
	switch number {
	case 0:
		put(laid{0, text})
	case 1:
		put(laid{1, text}, laid{0, text + "!"})
	case 2:
		put(laid{1, ""})
	case 3:
		put(laid{0, text}, laid{2, text})
	case 4:
		p.arm(0)
	case 5:
		p.arm(1)
	case 6:
		p.turn(!p.off)
	case 7:
		got, e := p.model.get(len(text) % 3)
		wantGet(t, p.Book, len(text)%3, got, e)
	case 8:
		want := p.model.open()
		b, e := Open(p.on)
		if e != want || (b != nil) != (want == api.OK) {
			t.Fatalf("Open is %v, %d, not %d", b, e, want)
		}
		if b != nil {
			p.Book = b
		}
	case 9:
		want := p.model.format(2)
		b, e := Format(p.on, 2)
		if e != want || (b != nil) != (want == api.OK) {
			t.Fatalf("Format is %v, %d, not %d", b, e, want)
		}
		if b != nil {
			p.Book = b
		}
	}
}

// asked: whether the book may be asked still; nothing is promised of it behind a Format that the power has cut.
func (p *pairing) asked(number int) bool { return number != 9 || !p.armed && !p.off }

func TestCallsInEveryOrder(t *testing.T) {
	for row := range 100000 {
		p := newPairing(t, 6, 2)
		for rest := row; rest > 0; rest /= 10 {
			if p.asked(rest % 10) {
				p.call(t, rest%10, long(rest%17))
			}
		}
		p.look(t)
		if !p.off && !p.model.ended {
			p.hold(t)
		}
		p.found(t, p.texts())
		if t.Failed() {
			t.Fatalf("the calls %d, from the last digit on", row)
		}
	}
}

func TestALongRowOfCalls(t *testing.T) {
	p := newPairing(t, 6, 2)
	state := uint64(1)
	for range 20000 {
		state = state*6364136223846793005 + 1442695040888963407
		if number := int(state>>33) % 10; p.asked(number) {
			p.call(t, number, long(int(state>>43)%1025))
		}
		p.look(t)
		p.found(t, p.texts())
		if t.Failed() {
			t.FailNow()
		}
	}
}
