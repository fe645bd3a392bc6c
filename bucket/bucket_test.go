package bucket

import (
	"bytes"
	"math"
	"slices"
	"testing"

	"reprise/api"
)

// The three examples.

func five() api.Cell { return api.Cell{Key: 5, Cur: val(3), Batch: 1} }

func TestExampleEncode(t *testing.T) {
	wantEncode(t, []api.Cell{five()}, []byte{1, 5, 2, 3, 0, 0, 0, 0, 0, 0, 0, 1}, api.OK)
	wantEncode(t, []api.Cell{}, nil, api.OK)
	wantEncode(t, []api.Cell{five(), five()}, nil, api.ErrOrder)
	wantEncode(t, rising(17), nil, api.ErrLong)
	wantEncode(t, []api.Cell{{Batch: -1}}, nil, api.ErrArg)
}

func TestExampleDecode(t *testing.T) {
	b := []byte{1, 5, 2, 3, 0, 0, 0, 0, 0, 0, 0, 1}
	wantDecode(t, b, []api.Cell{five()}, api.OK)
	wantDecode(t, []byte{0}, nil, api.ErrForm)
	wantDecode(t, []byte{1, 5, 2, 3}, nil, api.ErrShort)
	wantDecode(t, []byte{1, 5, 4}, nil, api.ErrForm)
	wantDecode(t, []byte{1, 5, 4, 3, 0, 0, 0, 0, 0, 0, 0, 1}, nil, api.ErrForm)
	wantDecode(t, []byte{17}, nil, api.ErrLong)
	wantDecode(t, append(b, 0), nil, api.ErrTail)
}

func TestExampleFind(t *testing.T) {
	wantFind(t, of(2, 5, 9), 5, 1, true)
	wantFind(t, of(2, 5, 9), 6, 2, false)
	wantFind(t, of(2, 5, 9), 10, 3, false)
	wantFind(t, of(5, 2), 5, 0, false)
	wantFind(t, of(5, 2), 2, 0, false)
}

// P11.1: how many.

func TestEncodeOfNoCells(t *testing.T) {
	if b, e := Encode(nil); len(b) != 0 || e != api.OK {
		t.Errorf("Encode(nil) is %x, %d", b, e)
	}
	wantEncode(t, nil, nil, api.OK)
	wantEncode(t, []api.Cell{}, nil, api.OK)
}

func TestEncodeOfSoMany(t *testing.T) {
	for count := range 17 {
		wantBoth(t, rising(count))
	}
	for _, count := range []int{17, 18, 32, 256, 256 + 3, 1<<16 + 2} {
		wantEncode(t, rising(count), nil, api.ErrLong)
	}
}

func TestEncodeTellsLongFirst(t *testing.T) {
	wantEncode(t, make([]api.Cell, 17), nil, api.ErrLong)
	for at := range 17 {
		cells := rising(17)
		cells[at].Batch = -1
		wantEncode(t, cells, nil, api.ErrLong)
		cells[at] = api.Cell{Prev: void(1)}
		wantEncode(t, cells, nil, api.ErrLong)
	}
}

// P11.1: the keys.

func TestEncodeOfKeysThatDoNotRise(t *testing.T) {
	for _, cells := range outOfOrder() {
		if len(cells) <= most {
			wantEncode(t, cells, nil, api.ErrOrder)
		}
	}
	for at := 1; at < most; at++ {
		cells := rising(most)
		cells[at].Key = cells[at-1].Key
		wantEncode(t, cells, nil, api.ErrOrder)
		cells[at].Key--
		wantEncode(t, cells, nil, api.ErrOrder)
		cells[at].Key += 2
		if at < most-1 {
			cells[at+1].Key = cells[at].Key + 1
		}
		wantBoth(t, cells)
	}
}

func TestEncodeOfEachKey(t *testing.T) {
	keys := keysOf()
	for i, key := range keys {
		wantBoth(t, []api.Cell{{Key: key, Batch: 1}})
		wantBoth(t, []api.Cell{{Key: key, Prev: val(1), Batch: 1}})
		if i > 0 {
			wantBoth(t, of(keys[i-1], key))
			wantEncode(t, of(key, keys[i-1]), nil, api.ErrOrder)
			wantEncode(t, of(key, key), nil, api.ErrOrder)
		}
	}
	wantBoth(t, of(keys[:most]...))
	wantBoth(t, of(keys[len(keys)-most:]...))
	wantBoth(t, of(0, 1, 2))
	wantBoth(t, of(1<<64-3, 1<<64-2, 1<<64-1))
}

// P11.1: batches and values.

func TestEncodeOfEachBatch(t *testing.T) {
	for _, batch := range batchesOf() {
		for _, at := range []int{0, 1, 2} {
			cells := of(0, 1<<20, 1<<64-1)
			cells[at].Batch = batch
			wantBoth(t, cells)
		}
	}
	for _, batch := range noBatches() {
		for _, at := range []int{0, 1, 2} {
			cells := of(0, 1<<20, 1<<64-1)
			cells[at].Batch = batch
			wantEncode(t, cells, nil, api.ErrArg)
		}
	}
}

// TestBatchesMayFall: only the keys have an order.
func TestBatchesMayFall(t *testing.T) {
	cells := of(1, 2, 3)
	cells[0].Batch, cells[1].Batch, cells[2].Batch = top, 7, 7
	wantBoth(t, cells)
}

func TestEncodeOfNothing(t *testing.T) {
	for _, bits := range []uint64{1, 2, 255, 256, 1 << 32, 1<<63 - 1, 1 << 63, 1<<64 - 1, api.QuietNaN} {
		for _, other := range []api.Value{nothing, val(0), val(9)} {
			wantEncode(t, []api.Cell{{Prev: void(bits), Cur: other}}, nil, api.ErrArg)
			wantEncode(t, []api.Cell{{Prev: other, Cur: void(bits)}}, nil, api.ErrArg)
		}
		wantEncode(t, []api.Cell{{Prev: void(bits), Cur: void(bits)}}, nil, api.ErrArg)
		wantEncode(t, []api.Cell{{Key: 1}, {Key: 2, Cur: void(bits)}}, nil, api.ErrArg)
		for _, other := range []api.Value{nothing, val(0), val(9), val(bits)} {
			wantBoth(t, []api.Cell{{Prev: val(bits), Cur: other}})
			wantBoth(t, []api.Cell{{Prev: other, Cur: val(bits)}})
		}
	}
	wantBoth(t, []api.Cell{{}})
	wantBoth(t, []api.Cell{{}, {Key: 1, Prev: val(0), Cur: val(0)}})
}

// TestEncodeOfValuesThatNoKindHas: whether values are fit for a kind isn't asked.
func TestEncodeOfValuesThatNoKindHas(t *testing.T) {
	for _, bits := range []uint64{0x7ff0000000000001, 0xffffffffffffffff, 0xfff8000000000001, 0x7ff8000000000002} {
		wantBoth(t, []api.Cell{{Prev: val(bits), Cur: val(bits)}})
	}
}

func TestTheFirstFaultOfTheFirstCell(t *testing.T) {
	wrong := []api.Cell{{Batch: -1}, {Batch: top + 1}, {Prev: void(1)}, {Cur: void(1)}, {Prev: void(1), Cur: void(1), Batch: math.MinInt}}
	for _, c := range wrong {
		for _, key := range []uint64{0, 4, 5} {
			c.Key = key
			wantEncode(t, []api.Cell{five(), c}, nil, api.ErrOrder)
		}
		c.Key = 6
		wantEncode(t, []api.Cell{five(), c}, nil, api.ErrArg)
		wantEncode(t, []api.Cell{five(), c, {Key: 6}}, nil, api.ErrArg)
		wantEncode(t, []api.Cell{five(), c, {Key: 1}}, nil, api.ErrArg)
		wantEncode(t, []api.Cell{c, {Key: 6}}, nil, api.ErrArg)
		wantEncode(t, []api.Cell{{Key: 5}, {Key: 5}, c}, nil, api.ErrOrder)
		wantEncode(t, []api.Cell{{Key: 5}, {Key: 4}, c}, nil, api.ErrOrder)
	}
}

// P11.1: the bytes themselves.

func TestBytesOfEachWay(t *testing.T) {
	low, high := val(0x0807060504030201), val(0x100f0e0d0c0b0a09)
	for _, c := range []struct {
		cell api.Cell
		want []byte
	}{
		{api.Cell{}, []byte{1, 0, 0, 0}},
		{api.Cell{Key: 127, Prev: low, Batch: 127}, []byte{1, 127, 1, 1, 2, 3, 4, 5, 6, 7, 8, 127}},
		{api.Cell{Key: 128, Cur: high, Batch: 128}, []byte{1, 128, 1, 2, 9, 10, 11, 12, 13, 14, 15, 16, 128, 1}},
		{api.Cell{Key: 300, Prev: low, Cur: high, Batch: 300}, []byte{1, 0xac, 2, 3, 1, 2, 3, 4, 5, 6, 7, 8, 9, 10, 11, 12, 13, 14, 15, 16, 0xac, 2}},
		{
			api.Cell{Key: 1<<64 - 1, Prev: val(0), Batch: 1 << 40},
			[]byte{1, 255, 255, 255, 255, 255, 255, 255, 255, 255, 1, 1, 0, 0, 0, 0, 0, 0, 0, 0, 128, 128, 128, 128, 128, 32},
		},
	} {
		wantEncode(t, []api.Cell{c.cell}, c.want, api.OK)
		wantDecode(t, c.want, []api.Cell{c.cell}, api.OK)
	}
	two := []api.Cell{{Key: 5, Cur: low, Batch: 1}, {Key: 6, Prev: low, Batch: 2}}
	wantEncode(t, two, []byte{2, 5, 2, 1, 2, 3, 4, 5, 6, 7, 8, 1, 6, 1, 1, 2, 3, 4, 5, 6, 7, 8, 2}, api.OK)
}

func TestBytesOfManyCells(t *testing.T) {
	d := &dice{1}
	for i := range 400 {
		wantBoth(t, d.cells(i%17))
	}
}

// TestThePageFitsABlock: the longest page is shorter than a block.
func TestThePageFitsABlock(t *testing.T) {
	cells := []api.Cell{}
	for i := range uint64(most) {
		cells = append(cells, api.Cell{Key: 1<<64 - 16 + i, Prev: val(1<<64 - 1), Cur: val(1<<64 - 1), Batch: top})
	}
	wantBoth(t, cells)
	if b, _ := Encode(cells); len(b) != 1+16*(10+1+16+6) {
		t.Errorf("the longest page has %d bytes", len(b))
	}
}

// P11.2

func TestDecodeOfNoByte(t *testing.T) {
	wantDecode(t, nil, nil, api.OK)
	wantDecode(t, []byte{}, nil, api.OK)
}

func TestDecodeOfHowMany(t *testing.T) {
	wantDecode(t, []byte{0}, nil, api.ErrForm)
	wantDecode(t, []byte{0, 0}, nil, api.ErrForm)
	wantDecode(t, []byte{0, 5, 0, 1}, nil, api.ErrForm)
	wantDecode(t, []byte{16}, nil, api.ErrShort)
	for _, count := range []uint64{17, 18, 127, 128, 255, 256, 256 + 1, 1 << 16, 1 << 32, 1<<32 + 1, 1 << 62, 1<<63 - 1, 1 << 63, 1<<63 + 1, 1<<64 - 1} {
		wantDecode(t, number(count), nil, api.ErrLong)
		wantDecode(t, append(number(count), page(rising(16))[1:]...), nil, api.ErrLong)
	}
	b := page(rising(16))
	for count := range byte(20) {
		b[0] = count
		wantRead(t, b)
	}
}

// badNumbers: bytes that Take refuses, and how.
func badNumbers() map[string]api.Errno {
	return map[string]api.Errno{
		"": api.ErrShort, "\x80": api.ErrShort, "\xff\xff": api.ErrShort, "\x80\x80\x80\x80\x80\x80\x80\x80\x80": api.ErrShort,
		"\x80\x00": api.ErrForm, "\xff\x80\x00": api.ErrForm, "\x85\x00": api.ErrForm, "\x81\x00": api.ErrForm,
		"\x80\x80\x80\x80\x80\x80\x80\x80\x80\x02": api.ErrForm, "\xff\xff\xff\xff\xff\xff\xff\xff\xff\xff": api.ErrForm,
		"\x80\x80\x80\x80\x80\x80\x80\x80\x80\x80": api.ErrForm, "\x80\x80\x80\x80\x80\x80\x80\x80\x80\x00": api.ErrForm,
	}
}

func TestDecodeOfBadNumbers(t *testing.T) {
	two := page([]api.Cell{{Key: 1, Batch: 1}, {Key: 9, Prev: val(1), Cur: val(2), Batch: 3}})
	for bad, code := range badNumbers() {
		if bad != "" {
			wantDecode(t, []byte(bad), nil, code)
		}
		wantDecode(t, append([]byte{1}, bad...), nil, code)
		wantDecode(t, append([]byte{1, 5, 0}, bad...), nil, code)
		wantDecode(t, append([]byte{1, 5, 1, 1, 2, 3, 4, 5, 6, 7, 8}, bad...), nil, code)
		wantDecode(t, append([]byte{2, 5, 0, 1}, bad...), nil, code)
		wantDecode(t, append(slices.Clone(two[:len(two)-1]), bad...), nil, code)
		if code == api.ErrForm {
			for _, head := range [][]byte{{}, {1}, {1, 5, 0}, {2, 5, 0, 1}, two[:len(two)-1]} {
				wantDecode(t, slices.Concat(head, []byte(bad), []byte{5, 0, 1}), nil, code)
			}
		}
	}
}

func TestDecodeOfKeysThatDoNotRise(t *testing.T) {
	for _, cells := range outOfOrder() {
		if len(cells) <= most {
			wantDecode(t, page(cells), nil, api.ErrOrder)
		}
	}
	keys := keysOf()
	for i, key := range keys[1:] {
		wantDecode(t, page(of(keys[i], key)), of(keys[i], key), api.OK)
		wantDecode(t, page(of(key, keys[i])), nil, api.ErrOrder)
		wantDecode(t, page(of(key, key)), nil, api.ErrOrder)
	}
}

// TestDecodeTellsTheFirstFault: what stands behind a fault plays no part.
func TestDecodeTellsTheFirstFault(t *testing.T) {
	wantDecode(t, []byte{2, 5, 0, 1, 5}, nil, api.ErrOrder)
	wantDecode(t, []byte{2, 5, 0, 1, 5, 4}, nil, api.ErrOrder)
	wantDecode(t, []byte{2, 5, 0, 1, 4, 0, 0x80, 0}, nil, api.ErrOrder)
	wantDecode(t, []byte{2, 5, 4, 1, 5, 0, 1}, nil, api.ErrForm)
	wantDecode(t, []byte{2, 5, 0, 0x81, 0x80, 0x80, 0x80, 0x80, 0x20, 5, 0, 1}, nil, api.ErrForm)
	wantDecode(t, []byte{2, 5, 0, 0x80, 0, 5, 0, 1}, nil, api.ErrForm)
	wantDecode(t, []byte{1, 5, 0, 0x81, 0x80, 0x80, 0x80, 0x80, 0x20, 9}, nil, api.ErrForm)
	wantDecode(t, []byte{1, 5, 3, 1, 2, 3, 4, 5, 6, 7, 8, 0x80, 0}, nil, api.ErrShort)
	wantDecode(t, []byte{1, 5, 1, 1, 2, 3, 4, 5, 6, 7}, nil, api.ErrShort)
	wantDecode(t, []byte{2, 5, 0, 1}, nil, api.ErrShort)
}

func TestDecodeOfEachByteBetween(t *testing.T) {
	words := slices.Concat(word(7), word(1<<63))
	for has := range 256 {
		b := slices.Concat([]byte{1, 5, byte(has)}, words[:8*(has&1+has>>1&1)], []byte{9})
		wantRead(t, b)
		if has > 3 {
			wantDecode(t, b, nil, api.ErrForm)
			wantDecode(t, []byte{1, 5, byte(has)}, nil, api.ErrForm)
		}
	}
	wantDecode(t, []byte{1, 5}, nil, api.ErrShort)
	wantDecode(t, []byte{2, 4, 0, 1, 5}, nil, api.ErrShort)
}

func TestDecodeOfWordsThatEnd(t *testing.T) {
	for has := byte(1); has <= 3; has++ {
		words := 8 * int(has&1+has>>1)
		for left := range words {
			wantDecode(t, slices.Concat([]byte{1, 5, has}, bytes.Repeat([]byte{1}, left)), nil, api.ErrShort)
		}
		wantDecode(t, slices.Concat([]byte{1, 5, has}, bytes.Repeat([]byte{1}, words)), nil, api.ErrShort)
		wantRead(t, slices.Concat([]byte{1, 5, has}, bytes.Repeat([]byte{1}, words+1)))
	}
}

func TestDecodeOfEachBatch(t *testing.T) {
	for _, batch := range batchesOf() {
		wantDecode(t, append([]byte{1, 5, 0}, number(uint64(batch))...), []api.Cell{{Key: 5, Batch: batch}}, api.OK)
	}
	for _, batch := range []uint64{top + 1, top + 2, 2 * top, 1 << 62, 1<<63 - 1, 1 << 63, 1<<63 + 1, 1<<64 - 1} {
		wantDecode(t, append([]byte{1, 5, 0}, number(batch)...), nil, api.ErrForm)
		wantDecode(t, slices.Concat([]byte{2, 5, 0}, number(batch), []byte{6, 0, 1}), nil, api.ErrForm)
	}
}

func TestDecodeOfEachPageCut(t *testing.T) {
	d := &dice{2}
	for i := range 60 {
		b := page(d.cells(1 + i%16))
		for cut := range b {
			if cut > 0 {
				wantDecode(t, b[:cut], nil, api.ErrShort)
			}
		}
		for _, tail := range [][]byte{{0}, {1}, {0x80}, {255}, b} {
			wantDecode(t, slices.Concat(b, tail), nil, api.ErrTail)
		}
	}
}

// P11.5: one form.

func TestDecodeOfAllShortBytes(t *testing.T) {
	all := [][]byte{{}}
	for from := 0; len(all) < 60000; {
		to := len(all)
		for _, head := range all[from:to] {
			for _, c := range []byte{0, 1, 2, 3, 4, 17, 0x7f, 0x80, 0x81, 0xff} {
				all = append(all, append(slices.Clone(head), c))
			}
		}
		from = to
	}
	for _, b := range all {
		wantRead(t, b)
	}
}

func TestDecodeOfPagesWithOneByteChanged(t *testing.T) {
	d := &dice{3}
	for i := range 40 {
		b := page(d.cells(1 + i%5))
		for at, was := range b {
			for c := range 256 {
				b[at] = byte(c)
				wantRead(t, b)
			}
			b[at] = was
		}
	}
}

func TestDecodeOfPagesWithBytesTakenOutAndPutIn(t *testing.T) {
	d := &dice{4}
	for range 4000 {
		b := page(d.cells(1 + d.below(16)))
		for range 1 + d.below(3) {
			at := d.below(len(b))
			switch d.below(3) {
			case 0:
				b = slices.Delete(b, at, min(len(b), at+1+d.below(9)))
			case 1:
				b = slices.Insert(b, at, byte(d.next()))
			default:
				b[at] = byte(d.next())
			}
			if len(b) == 0 {
				break
			}
		}
		wantRead(t, b)
	}
}

// P11.3

func TestFindOfNoCellsAndOfOne(t *testing.T) {
	for _, key := range keysOf() {
		wantFind(t, nil, key, 0, false)
		wantFind(t, []api.Cell{}, key, 0, false)
		wantFind(t, of(key), key, 0, true)
		if key > 0 {
			wantFind(t, of(key), key-1, 0, false)
			wantFind(t, of(key), 0, 0, false)
		}
		if key < 1<<64-1 {
			wantFind(t, of(key), key+1, 1, false)
			wantFind(t, of(key), 1<<64-1, 1, false)
		}
	}
}

func TestFindAtEachKey(t *testing.T) {
	for _, count := range []int{1, 2, 3, 15, 16, 17, 100} {
		cells := rising(count)
		for key := range uint64(2*count + 3) {
			at := min(int(key+1)/2, count)
			wantFind(t, cells, key, at, key%2 == 0 && at < count)
		}
		wantFind(t, cells, 1<<64-1, count, false)
	}
	keys := keysOf()
	for i, key := range keys {
		wantFind(t, of(keys...), key, i, true)
	}
}

func TestFindOfCellsThatAreNotInOrder(t *testing.T) {
	for _, cells := range outOfOrder() {
		for _, c := range cells {
			wantFind(t, cells, c.Key, 0, false)
			wantFind(t, cells, c.Key+1, 0, false)
		}
		wantFind(t, cells, 0, 0, false)
		wantFind(t, cells, 1<<64-1, 0, false)
	}
}

// P11.4

func TestPutAtEachPlace(t *testing.T) {
	for count := range 17 {
		cells := rising(count)
		for key := range uint64(2*count + 2) {
			c := api.Cell{Key: key + 1, Prev: void(3), Cur: val(4), Batch: -9}
			at := int(key+1) / 2
			switch {
			case key%2 == 1 && at < count:
				wantPut(t, cells, c, slices.Concat(cells[:at], []api.Cell{c}, cells[at+1:]), api.OK)
			case count == 16:
				wantPut(t, cells, c, nil, api.ErrRoom)
			default:
				at = min(int(key)/2+1, count)
				wantPut(t, cells, c, slices.Concat(cells[:at], []api.Cell{c}, cells[at:]), api.OK)
			}
		}
	}
}

func TestPutAheadOfAllAndBehind(t *testing.T) {
	wantPut(t, nil, five(), []api.Cell{five()}, api.OK)
	wantPut(t, of(2, 5), api.Cell{}, append([]api.Cell{{}}, of(2, 5)...), api.OK)
	wantPut(t, of(0, 5), api.Cell{}, []api.Cell{{}, of(0, 5)[1]}, api.OK)
	last := api.Cell{Key: 1<<64 - 1, Batch: 3}
	wantPut(t, of(2, 5), last, append(of(2, 5), last), api.OK)
	wantPut(t, of(2, 1<<64-1), last, append(of(2), last), api.OK)
}

// TestPutKeepsWhatCellsHold: a cell may hold anything, the ones that are there too.
func TestPutKeepsWhatCellsHold(t *testing.T) {
	wild := api.Cell{Key: 5, Prev: void(1<<64 - 1), Cur: void(7), Batch: math.MinInt}
	other := api.Cell{Key: 6, Prev: void(9), Batch: math.MaxInt}
	wantPut(t, []api.Cell{wild}, other, []api.Cell{wild, other}, api.OK)
	wantPut(t, []api.Cell{wild}, api.Cell{Key: 5}, []api.Cell{{Key: 5}}, api.OK)
	wantDrop(t, []api.Cell{wild, other}, 6, []api.Cell{wild}, api.OK)
}

func TestPutAtTheLimit(t *testing.T) {
	for count := 14; count < 20; count++ {
		cells := rising(count)
		for _, key := range []uint64{1, 15, uint64(2*count) - 1, uint64(2 * count), 1<<64 - 1} {
			c := api.Cell{Key: key, Batch: 4}
			if count >= 16 {
				wantPut(t, cells, c, nil, api.ErrRoom)
				continue
			}
			at := min(int(min(key, 1000)+1)/2, count)
			wantPut(t, cells, c, slices.Concat(cells[:at], []api.Cell{c}, cells[at:]), api.OK)
		}
		for _, at := range []int{0, 5, count - 1} {
			c := api.Cell{Key: cells[at].Key, Batch: 4}
			wantPut(t, cells, c, slices.Concat(cells[:at], []api.Cell{c}, cells[at+1:]), api.OK)
		}
	}
}

func TestActsOfCellsThatAreNotInOrder(t *testing.T) {
	for _, cells := range outOfOrder() {
		for _, key := range []uint64{0, 1, 2, 5, 9, 10, 1<<64 - 1, cells[len(cells)-1].Key} {
			wantPut(t, cells, api.Cell{Key: key}, nil, api.ErrOrder)
			wantDrop(t, cells, key, nil, api.ErrOrder)
		}
	}
}

func TestDropAtEachPlace(t *testing.T) {
	for _, count := range []int{0, 1, 2, 3, 15, 16, 17, 40} {
		cells := rising(count)
		for at, c := range cells {
			wantDrop(t, cells, c.Key, slices.Concat(cells[:at], cells[at+1:]), api.OK)
			wantDrop(t, cells, c.Key+1, cells, api.OK)
		}
		wantDrop(t, cells, 1<<64-1, cells, api.OK)
		wantDrop(t, cells, uint64(2*count), cells, api.OK)
	}
	wantDrop(t, nil, 0, nil, api.OK)
	wantDrop(t, []api.Cell{}, 0, nil, api.OK)
	wantDrop(t, of(0, 1<<64-1), 1<<64-1, of(0), api.OK)
	wantDrop(t, of(5, 9), 0, of(5, 9), api.OK)
}

// TestRowsOfPutAndDrop: rows of both against a list that the test keeps, ends of the limit among them.
func TestRowsOfPutAndDrop(t *testing.T) {
	d := &dice{5}
	kept := map[uint64]api.Cell{}
	cells := []api.Cell{}
	full := 0
	for i := range 6000 {
		key := uint64(d.below(24))
		_, there := kept[key]
		c := api.Cell{Key: key, Prev: d.value(), Cur: d.value(), Batch: d.below(1000)}
		var e api.Errno
		was := slices.Clone(cells)
		if d.below(24) < 7+i/500 {
			var next []api.Cell
			next, e = Put(cells, c)
			if !there && len(kept) == most {
				if e != api.ErrRoom || len(next) != 0 {
					t.Fatalf("Put(%v, %v) is %v, %d", cells, c, next, e)
				}
				full++
				continue
			}
			kept[key] = c
			if !slices.Equal(cells, was) {
				t.Fatalf("Put has made %v of %v", cells, was)
			}
			cells = next
		} else {
			var next []api.Cell
			next, e = Drop(cells, key)
			delete(kept, key)
			if !slices.Equal(cells, was) {
				t.Fatalf("Drop has made %v of %v", cells, was)
			}
			cells = next
		}
		if e != api.OK {
			t.Fatalf("at %d it is %d", i, e)
		}
		wantKept(t, cells, kept)
	}
	if full == 0 {
		t.Error("the page was never full")
	}
}

// wantKept holds cells to a map of them, by Find and through their bytes.
func wantKept(t *testing.T, cells []api.Cell, kept map[uint64]api.Cell) {
	t.Helper()
	want := []api.Cell{}
	for key := range uint64(24) {
		c, there := kept[key]
		if at, ok := Find(cells, key); at != len(want) || ok != there {
			t.Fatalf("Find(%v, %d) is %d, %t", cells, key, at, ok)
		}
		if there {
			want = append(want, c)
		}
	}
	if !slices.Equal(cells, want) {
		t.Fatalf("the cells are %v, not %v", cells, want)
	}
	b, e := Encode(cells)
	if !bytes.Equal(b, page(want)) || e != api.OK {
		t.Fatalf("Encode(%v) is %x, %d", cells, b, e)
	}
	if back, e := Decode(b); !slices.Equal(back, want) || e != api.OK {
		t.Fatalf("Decode(%x) is %v, %d", b, back, e)
	}
}
