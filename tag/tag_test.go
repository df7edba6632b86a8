package tag_test

import (
	"bytes"
	"math"
	"testing"

	"coracle/api"
	"coracle/tag"
	"coracle/varint"
)

// plainPut is P2.1's text; false says that there is no such tag.
func plainPut(num, wire int) ([]byte, bool) {
	if num < 1 || num > 1000 || wire != 0 && wire != 2 {
		return nil, false
	}
	return varint.Put(8*uint64(num) + uint64(wire)), true
}

// wiresAbout are the kinds that there are, and those that there are not.
func wiresAbout() []int {
	return []int{0, 2, 1, 3, 4, 5, 6, 7, 8, 10, 16, -1, -2, -6, -8, math.MaxInt, math.MinInt}
}

// field is a field's bytes: its tag, a number, and what stands behind that.
func field(t *testing.T, num, wire int, n uint64, behind ...byte) []byte {
	t.Helper()
	b, ok := plainPut(num, wire)
	if !ok {
		t.Fatalf("no tag of %d, %d", num, wire)
	}
	return append(append(b, varint.Put(n)...), behind...)
}

func taken(t *testing.T, b []byte, num, wire, size int, e api.Errno) {
	t.Helper()
	if gotNum, gotWire, gotSize, gotE := tag.Take(b); gotNum != num || gotWire != wire || gotSize != size || gotE != e {
		t.Errorf("Take of % x: %d, %d, %d, %d; want %d, %d, %d, %d", b, gotNum, gotWire, gotSize, gotE, num, wire, size, e)
	}
}

func skipped(t *testing.T, b []byte, size int, e api.Errno) {
	t.Helper()
	if gotSize, gotE := tag.Skip(b); gotSize != size || gotE != e {
		t.Errorf("Skip of % .20x (%d bytes): %d, %d; want %d, %d", b, len(b), gotSize, gotE, size, e)
	}
}

func TestP2_1_Put(t *testing.T) {
	for _, c := range []struct {
		num, wire int
		want      string
	}{
		{1, api.Number, "\x08"},
		{1, api.Bytes, "\x0a"},
		{2, api.Number, "\x10"},
		{15, api.Number, "\x78"},
		{15, api.Bytes, "\x7a"},
		{16, api.Number, "\x80\x01"},
		{16, api.Bytes, "\x82\x01"},
		{1000, api.Number, "\xc0\x3e"},
		{1000, api.Bytes, "\xc2\x3e"},
	} {
		if b, e := tag.Put(c.num, c.wire); string(b) != c.want || e != api.OK {
			t.Errorf("Put(%d, %d) = % x, %d; want % x", c.num, c.wire, b, e, c.want)
		}
	}
}

func TestP2_1_PutOfAllThatMayBe(t *testing.T) {
	for num := -3; num < 1100; num++ {
		for _, wire := range wiresAbout() {
			want, ok := plainPut(num, wire)
			b, e := tag.Put(num, wire)
			if ok && (e != api.OK || !bytes.Equal(b, want)) {
				t.Errorf("Put(%d, %d) = % x, %d; want % x", num, wire, b, e, want)
			}
			if !ok && (e != api.ErrArg || len(b) != 0) {
				t.Errorf("Put(%d, %d) = % x, %d; want ErrArg", num, wire, b, e)
			}
		}
	}
}

func TestP2_1_PutOfFarOnes(t *testing.T) {
	// Some of these come to a tag that may be, if eight times num wraps round.
	for _, num := range []int{
		math.MaxInt, math.MinInt, 1<<61 + 1, 1<<61 + 1000, -1<<61 + 1, -1 << 60, 1<<32 + 1, 1<<31 + 5, -1, -1000,
	} {
		for _, wire := range wiresAbout() {
			if b, e := tag.Put(num, wire); e != api.ErrArg || len(b) != 0 {
				t.Errorf("Put(%d, %d) = % x, %d; want ErrArg", num, wire, b, e)
			}
		}
	}
	// Nor does a kind that is far make good for a number that is none.
	for _, c := range [][2]int{{0, 8}, {0, 10}, {1001, -8}, {1001, -6}, {2, -8}, {1, 8}} {
		if b, e := tag.Put(c[0], c[1]); e != api.ErrArg || len(b) != 0 {
			t.Errorf("Put(%d, %d) = % x, %d; want ErrArg", c[0], c[1], b, e)
		}
	}
}

func TestP2_1_TakeOfEachNumber(t *testing.T) {
	for n := range uint64(1 << 14) {
		b := varint.Put(n)
		num, wire := int(n/8), int(n%8)
		for _, behind := range []string{"", "\x00", "\x01", "\x80", "\xff\xff\xff\xff\xff\xff\xff\xff\xff\xff\xff"} {
			long := append(bytes.Clone(b), behind...)
			if _, ok := plainPut(num, wire); ok {
				taken(t, long, num, wire, len(b), api.OK)
			} else {
				taken(t, long, 0, 0, 0, api.ErrField)
			}
		}
	}
}

func TestP2_1_TakeOfNumbersFarAbove(t *testing.T) {
	// Cut to 32 bits, or less, some of these would be tags.
	for k := 14; k < 64; k++ {
		for _, low := range []uint64{0, 2, 8, 10, 8000, 8002} {
			taken(t, varint.Put(1<<k+low), 0, 0, 0, api.ErrField)
		}
	}
	for _, n := range []uint64{8003, 8008, 8010, math.MaxInt64, math.MaxUint64, math.MaxUint64 - 5, math.MaxUint64 - 7} {
		taken(t, varint.Put(n), 0, 0, 0, api.ErrField)
	}
}

func TestP2_1_TakeTellsWhatVarintTells(t *testing.T) {
	taken(t, nil, 0, 0, 0, api.ErrShort)
	for _, c := range []struct {
		b string
		e api.Errno
	}{
		{"", api.ErrShort},
		{"\x80", api.ErrShort},
		{"\x82", api.ErrShort},
		{"\xff\xff", api.ErrShort},
		{"\xff\xff\xff\xff\xff\xff\xff\xff\xff", api.ErrShort},
		{"\x80\x00", api.ErrCorrupt},
		{"\x8a\x00", api.ErrCorrupt},
		{"\x8a\x80\x00\x08", api.ErrCorrupt},
		{"\xff\xff\xff\xff\xff\xff\xff\xff\xff\x02", api.ErrCorrupt},
	} {
		taken(t, []byte(c.b), 0, 0, 0, c.e)
	}
}

func TestP2_2_SkipOfNumbers(t *testing.T) {
	for _, num := range []int{1, 15, 16, 999, 1000} {
		for k := range 64 {
			// What a number is does not matter: it may be above MaxBytes.
			for _, n := range []uint64{1<<k - 1, 1 << k, 1<<k + 1} {
				b := field(t, num, api.Number, n)
				skipped(t, b, len(b), api.OK)
				skipped(t, append(bytes.Clone(b), 0), len(b), api.OK)
				skipped(t, append(bytes.Clone(b), 0xff, 7), len(b), api.OK)
			}
		}
	}
	greatest := field(t, 1, api.Number, math.MaxUint64)
	skipped(t, greatest, 11, api.OK)
}

func TestP2_2_SkipOfBytes(t *testing.T) {
	for _, num := range []int{1, 15, 16, 1000} {
		for _, n := range []int{0, 1, 2, 127, 128, 129, 16383, 16384} {
			b := field(t, num, api.Bytes, uint64(n), bytes.Repeat([]byte{0x80}, n)...)
			skipped(t, b, len(b), api.OK)
			skipped(t, append(bytes.Clone(b), 9), len(b), api.OK)
			skipped(t, append(bytes.Clone(b), b...), len(b), api.OK)
			if n > 0 {
				skipped(t, b[:len(b)-1], 0, api.ErrShort)
				skipped(t, b[:len(b)-n], 0, api.ErrShort)
			}
		}
	}
	skipped(t, []byte("\x0a\x02\x07\x07\x09"), 4, api.OK)
	skipped(t, []byte("\x0a\x00"), 2, api.OK)
}

func TestP2_2_SkipOfTooManyBytes(t *testing.T) {
	long := make([]byte, 1<<14+9)
	for _, n := range []uint64{1<<14 + 1, 1<<14 + 2, 1 << 15, 1 << 31, 1 << 32, 1<<32 + 1, 1<<63 - 1, 1 << 63, 1<<63 + 1, math.MaxUint64} {
		// Whether so many bytes are there or not, and as which kind the same number would do.
		skipped(t, field(t, 1, api.Bytes, n), 0, api.ErrBig)
		skipped(t, field(t, 1, api.Bytes, n, 7), 0, api.ErrBig)
		skipped(t, field(t, 1000, api.Bytes, n, long...), 0, api.ErrBig)
		b := field(t, 1000, api.Number, n)
		skipped(t, append(b, long...), len(b), api.OK)
	}
	skipped(t, field(t, 1, api.Bytes, 1<<14), 0, api.ErrShort)
	skipped(t, field(t, 1, api.Bytes, 1<<14, long...), 1+3+1<<14, api.OK)
}

func TestP2_2_SkipTellsWhatTakesTell(t *testing.T) {
	skipped(t, nil, 0, api.ErrShort)
	for _, c := range []struct {
		b string
		e api.Errno
	}{
		// Of the tag.
		{"", api.ErrShort},
		{"\x82", api.ErrShort},
		{"\x80\x00", api.ErrCorrupt},
		{"\x00\x05", api.ErrField},
		{"\x02\x00", api.ErrField},
		{"\x09\x05", api.ErrField},
		{"\x0b\x00", api.ErrField},
		{"\x0c\x00", api.ErrField},
		{"\xc8\x3e\x05", api.ErrField},
		{"\x09", api.ErrField},
		{"\x09\x80\x00", api.ErrField},
		// Of the number behind it.
		{"\x08", api.ErrShort},
		{"\x08\x80", api.ErrShort},
		{"\x08\xff\xff\xff\xff\xff\xff\xff\xff\xff", api.ErrShort},
		{"\x08\x80\x00", api.ErrCorrupt},
		{"\x08\xff\xff\xff\xff\xff\xff\xff\xff\xff\x02", api.ErrCorrupt},
		{"\x0a", api.ErrShort},
		{"\x0a\x80", api.ErrShort},
		{"\x0a\xff\xff\xff\xff\xff\xff\xff\xff\xff", api.ErrShort},
		{"\x0a\x80\x00", api.ErrCorrupt},
		{"\x0a\x82\x00\x07\x07", api.ErrCorrupt},
		{"\x0a\xff\xff\xff\xff\xff\xff\xff\xff\xff\x02", api.ErrCorrupt},
		// Of the bytes behind that.
		{"\x0a\x01", api.ErrShort},
		{"\x0a\x02\x07", api.ErrShort},
	} {
		skipped(t, []byte(c.b), 0, c.e)
	}
}

func TestP2_3_ATagIsTakenAsItWasPut(t *testing.T) {
	var row []byte
	for num := 1; num <= api.MaxField; num++ {
		for _, wire := range []int{api.Number, api.Bytes} {
			b, e := tag.Put(num, wire)
			if e != api.OK {
				t.Fatalf("Put(%d, %d): %d", num, wire, e)
			}
			taken(t, b, num, wire, len(b), api.OK)
			for size := range b {
				taken(t, b[:size], 0, 0, 0, api.ErrShort)
			}
			row = append(row, b...)
		}
	}
	// One behind the other they are taken in order.
	for num := 1; num <= api.MaxField; num++ {
		for _, wire := range []int{api.Number, api.Bytes} {
			gotNum, gotWire, size, e := tag.Take(row)
			if gotNum != num || gotWire != wire || e != api.OK {
				t.Fatalf("of a row: %d, %d, %d; want %d, %d", gotNum, gotWire, e, num, wire)
			}
			row = row[size:]
		}
	}
	taken(t, row, 0, 0, 0, api.ErrShort)
}

// holds fails if what is told of b is not what P2.1 to P2.3 let be told of any bytes.
func holds(t *testing.T, b []byte) {
	t.Helper()
	num, wire, size, e := tag.Take(b)
	skip, skipE := tag.Skip(b)
	if e != api.OK {
		if num != 0 || wire != 0 || size != 0 || skip != 0 || skipE != e {
			t.Errorf("Take of % .20x: %d, %d, %d, %d; Skip: %d, %d", b, num, wire, size, e, skip, skipE)
		}
		return
	}
	if p, e := tag.Put(num, wire); e != api.OK || !bytes.Equal(p, b[:size]) {
		t.Errorf("Take of % .20x: %d, %d, which is put as % x, %d", b, num, wire, p, e)
	}
	switch skipE {
	case api.OK:
		if skip <= size || skip > len(b) {
			t.Errorf("Skip of % .20x: %d of %d bytes", b, skip, len(b))
		}
		// The field alone is as long, and any beginning of it goes on.
		skipped(t, b[:skip:skip], skip, api.OK)
		skipped(t, b[:skip-1], 0, api.ErrShort)
	case api.ErrShort, api.ErrCorrupt, api.ErrBig:
		if skip != 0 {
			t.Errorf("Skip of % .20x: %d beside error %d", b, skip, skipE)
		}
	default:
		t.Errorf("Skip of % .20x: error %d behind a tag that may be", b, skipE)
	}
}

func TestP2_3_WhatIsSkippedIsThere(t *testing.T) {
	for i := range 256 {
		for j := range 256 {
			b := []byte{byte(i), byte(j), 2, 7, 7, 9}
			for size := range len(b) + 1 {
				holds(t, b[:size:size])
			}
		}
	}
	for _, n := range []uint64{0, 1, 127, 128, 300, 1 << 14, 1<<14 + 1, math.MaxUint64} {
		for _, there := range []int{0, 1, 127, 128, 300, 1<<14 - 1, 1 << 14, 1<<14 + 1} {
			holds(t, field(t, 16, api.Bytes, n, make([]byte, there)...))
			holds(t, field(t, 16, api.Number, n, make([]byte, there)...))
		}
	}
}

func FuzzP2_3(f *testing.F) {
	f.Add([]byte("\x0a\x02\x07\x07\x09"))
	f.Add([]byte("\xc0\x3e\xff\xff\xff\xff\xff\xff\xff\xff\xff\x01"))
	f.Add([]byte("\xc2\x3e\x81\x80\x01"))
	f.Fuzz(func(t *testing.T, b []byte) { holds(t, b) })
}

func TestR7_NothingIsSharedOrChanged(t *testing.T) {
	a, _ := tag.Put(16, api.Bytes)
	b, _ := tag.Put(16, api.Bytes)
	a[0] = 7
	if again, _ := tag.Put(16, api.Bytes); !bytes.Equal(b, []byte{0x82, 0x01}) || !bytes.Equal(again, b) {
		t.Errorf("Put(16, Bytes) = % x behind a change of another one's", again)
	}
	// What stands in the spare room behind the end is not looked at, nor is anything changed there.
	room := []byte("\x82\x01\x03\x07\x07\x07\x08\x05")
	want := bytes.Clone(room)
	taken(t, room[:1], 0, 0, 0, api.ErrShort)
	taken(t, room[:2], 16, api.Bytes, 2, api.OK)
	skipped(t, room[:2], 0, api.ErrShort)
	skipped(t, room[:5], 0, api.ErrShort)
	skipped(t, room[:6], 6, api.OK)
	if !bytes.Equal(room, want) {
		t.Errorf("% x became % x", want, room)
	}
}

// What a call answers hangs on its own bytes, not on how far an earlier one went.
func TestR6_CallsDoNotHangOnEachOther(t *testing.T) {
	b := []byte("\x0a\x02\x07\x07\x08\x05")
	for range 3 {
		taken(t, b, 1, api.Bytes, 1, api.OK)
		skipped(t, b, 4, api.OK)
		skipped(t, b[4:], 2, api.OK)
		skipped(t, b[:3], 0, api.ErrShort)
	}
}
