package varint_test

import (
	"bytes"
	"math"
	"math/big"
	"testing"

	"coracle/api"
	"coracle/varint"
)

// plainPut is P1.1's text, done with numbers without a bound.
func plainPut(n uint64) []byte {
	rest, base := new(big.Int).SetUint64(n), big.NewInt(128)
	var b []byte
	for {
		low := new(big.Int)
		rest.DivMod(rest, base, low)
		if rest.Sign() == 0 {
			return append(b, byte(low.Int64()))
		}
		b = append(b, byte(low.Int64()+128))
	}
}

// edges are the numbers about each power of two, and some between.
func edges() []uint64 {
	l := []uint64{0, 3, 5, 300, 12345, 1 << 20, math.MaxInt64, math.MaxUint64, 0x0123456789abcdef, 0xfedcba9876543210}
	for k := range 64 {
		p := uint64(1) << k
		l = append(l, p-1, p, p+1, p|p>>1, ^p, 0x5555555555555555>>k, 0xaaaaaaaaaaaaaaaa>>k)
	}
	return l
}

// numbers are the edges, and all up to a bit beyond what two bytes hold.
func numbers() []uint64 {
	l := edges()
	for n := range uint64(1<<14 + 300) {
		l = append(l, n)
	}
	return l
}

func taken(t *testing.T, b []byte, n uint64, size int, e api.Errno) {
	t.Helper()
	if gotN, gotSize, gotE := varint.Take(b); gotN != n || gotSize != size || gotE != e {
		t.Errorf("Take of % x: %d, %d, %d; want %d, %d, %d", b, gotN, gotSize, gotE, n, size, e)
	}
}

func TestP1_1_PutTakesGroupsOfSevenBits(t *testing.T) {
	for _, c := range []struct {
		n    uint64
		want string
	}{
		{0, "\x00"},
		{1, "\x01"},
		{127, "\x7f"},
		{128, "\x80\x01"},
		{300, "\xac\x02"},
		{1<<14 - 1, "\xff\x7f"},
		{1 << 14, "\x80\x80\x01"},
		{1 << 56, "\x80\x80\x80\x80\x80\x80\x80\x80\x01"},
		{1<<63 - 1, "\xff\xff\xff\xff\xff\xff\xff\xff\x7f"},
		{1 << 63, "\x80\x80\x80\x80\x80\x80\x80\x80\x80\x01"},
		{math.MaxUint64, "\xff\xff\xff\xff\xff\xff\xff\xff\xff\x01"},
	} {
		if b := varint.Put(c.n); string(b) != c.want {
			t.Errorf("Put(%d) = % x; want % x", c.n, b, c.want)
		}
	}
	for _, n := range numbers() {
		if b, want := varint.Put(n), plainPut(n); !bytes.Equal(b, want) {
			t.Errorf("Put(%d) = % x; want % x", n, b, want)
		}
	}
}

func TestP1_1_SizeIsHowManyBytesPutHas(t *testing.T) {
	for k := range 64 {
		n := uint64(1) << k
		if got, want := varint.Size(n), k/7+1; got != want {
			t.Errorf("Size(%d) = %d; want %d", n, got, want)
		}
	}
	for _, n := range numbers() {
		if got, want := varint.Size(n), len(plainPut(n)); got != want {
			t.Errorf("Size(%d) = %d; want %d", n, got, want)
		}
	}
}

func TestP1_1_TakeLooksAtTheBeginningAlone(t *testing.T) {
	for _, n := range numbers() {
		b := plainPut(n)
		taken(t, b, n, len(b), api.OK)
		for _, behind := range []string{"\x00", "\x01", "\x7f", "\x80", "\xff", "\xff\xff\xff\xff\xff\xff\xff\xff\xff\xff\xff"} {
			taken(t, append(plainPut(n), behind...), n, len(b), api.OK)
		}
	}
}

func TestP1_1_TakeOfABeginningIsShort(t *testing.T) {
	taken(t, nil, 0, 0, api.ErrShort)
	taken(t, []byte{}, 0, 0, api.ErrShort)
	for _, n := range edges() {
		for b := plainPut(n); len(b) > 0; {
			b = b[:len(b)-1]
			taken(t, b, 0, 0, api.ErrShort)
		}
	}
	for size := range 10 {
		for _, c := range []byte{0x80, 0x81, 0xaa, 0xff} {
			taken(t, bytes.Repeat([]byte{c}, size), 0, 0, api.ErrShort)
		}
	}
}

func TestP1_1_TakeOfWhatIsNoPutIsCorrupt(t *testing.T) {
	for size := 1; size < 10; size++ {
		for _, c := range []byte{0x80, 0x81, 0xff} {
			// A last group of nought could have been left out.
			b := append(bytes.Repeat([]byte{c}, size), 0)
			taken(t, b, 0, 0, api.ErrCorrupt)
			taken(t, append(b, 1), 0, 0, api.ErrCorrupt)
		}
	}
	nine := bytes.Repeat([]byte{0xff}, 9)
	for c := range 256 {
		ten := append(bytes.Clone(nine), byte(c))
		if c == 1 {
			taken(t, ten, math.MaxUint64, 10, api.OK)
			continue
		}
		taken(t, ten, 0, 0, api.ErrCorrupt)
		taken(t, append(ten, 0), 0, 0, api.ErrCorrupt)
		taken(t, append(ten, 1), 0, 0, api.ErrCorrupt)
	}
	taken(t, bytes.Repeat([]byte{0x80}, 10), 0, 0, api.ErrCorrupt)
	taken(t, bytes.Repeat([]byte{0xff}, 1000), 0, 0, api.ErrCorrupt)
}

// Any bytes, two at most: what Take tells of them is as the Puts of all numbers that could matter say.
func TestP1_1_TakeOfAllShortRows(t *testing.T) {
	type put struct {
		n    uint64
		size int
	}
	whole, begun := map[string]put{}, map[string]int{"": 0}
	for n := range uint64(1 << 14) {
		b := string(plainPut(n))
		whole[b] = put{n, len(b)}
		// One group more lets each row of groups that go on be the beginning of a Put.
		long := string(plainPut(n | 1<<14))
		begun[long[:1]]++
		begun[long[:2]]++
	}
	look := func(b []byte) {
		for size := 1; size <= len(b) && size <= 2; size++ {
			if p, ok := whole[string(b[:size])]; ok {
				taken(t, b, p.n, p.size, api.OK)
				return
			}
		}
		want := api.ErrCorrupt
		if _, ok := begun[string(b)]; ok {
			want = api.ErrShort
		}
		taken(t, b, 0, 0, want)
	}
	look(nil)
	for i := range 256 {
		look([]byte{byte(i)})
		for j := range 256 {
			look([]byte{byte(i), byte(j)})
		}
	}
}

func TestP1_2_Zig(t *testing.T) {
	for _, c := range []struct {
		n    int64
		want uint64
	}{
		{0, 0}, {-1, 1}, {1, 2}, {-2, 3}, {2, 4}, {-3, 5},
		{1 << 31, 1 << 32}, {-1 << 31, 1<<32 - 1},
		{math.MaxInt64, math.MaxUint64 - 1}, {math.MinInt64, math.MaxUint64},
	} {
		if got := varint.Zig(c.n); got != c.want {
			t.Errorf("Zig(%d) = %d; want %d", c.n, got, c.want)
		}
		if got := varint.Zag(c.want); got != c.n {
			t.Errorf("Zag(%d) = %d; want %d", c.want, got, c.n)
		}
	}
	for n := range int64(5000) {
		if got := varint.Zig(n); got != uint64(2*n) {
			t.Errorf("Zig(%d) = %d", n, got)
		}
		if got := varint.Zig(-1 - n); got != uint64(2*n+1) {
			t.Errorf("Zig(%d) = %d", -1-n, got)
		}
	}
}

func TestP1_2_ZagGoesBack(t *testing.T) {
	for _, n := range numbers() {
		if got := varint.Zig(varint.Zag(n)); got != n {
			t.Errorf("Zig(Zag(%d)) = %d", n, got)
		}
		if got := varint.Zag(varint.Zig(int64(n))); got != int64(n) {
			t.Errorf("Zag(Zig(%d)) = %d", int64(n), got)
		}
		want := int64(n / 2)
		if n%2 == 1 {
			want = -1 - want
		}
		if got := varint.Zag(n); got != want {
			t.Errorf("Zag(%d) = %d; want %d", n, got, want)
		}
	}
}

func TestP1_3_WhatWasPutIsTaken(t *testing.T) {
	for _, n := range numbers() {
		b := varint.Put(n)
		taken(t, b, n, varint.Size(n), api.OK)
	}
	// One behind the other they are taken in order.
	var row []byte
	for _, n := range edges() {
		row = append(row, varint.Put(n)...)
	}
	for _, n := range edges() {
		got, size, e := varint.Take(row)
		if got != n || size != varint.Size(n) || e != api.OK {
			t.Fatalf("of a row: %d, %d, %d; want %d", got, size, e, n)
		}
		row = row[size:]
	}
	taken(t, row, 0, 0, api.ErrShort)
}

// nobodysBytes fails if bytes are taken that are not the Put of what they are taken as.
func nobodysBytes(t *testing.T, b []byte) {
	t.Helper()
	n, size, e := varint.Take(b)
	switch e {
	case api.OK:
		if !bytes.Equal(varint.Put(n), b[:size]) {
			t.Errorf("Take of % x: %d, which is put as % x", b, n, varint.Put(n))
		}
	case api.ErrShort:
		whole := append(bytes.Clone(b), 1)
		if n, size, e := varint.Take(whole); e != api.OK || size != len(whole) || !bytes.Equal(varint.Put(n), whole) {
			t.Errorf("Take of % x: short, but % x is no Put", b, whole)
		}
	case api.ErrCorrupt:
		for c := range 256 {
			if _, _, e := varint.Take(append(bytes.Clone(b), byte(c))); e != api.ErrCorrupt {
				t.Errorf("Take of % x: corrupt, but with %x behind it %d", b, c, e)
			}
		}
	default:
		t.Errorf("Take of % x: error %d", b, e)
	}
}

func TestP1_3_NobodyElsesBytesAreTaken(t *testing.T) {
	for _, n := range edges() {
		b := plainPut(n)
		for at := range b {
			for _, c := range []byte{0, 1, 2, 3, 0x7f, 0x80, 0x81, 0xfe, 0xff, b[at] ^ 0x80, b[at] ^ 1, b[at] ^ 0x40} {
				turned := bytes.Clone(b)
				turned[at] = c
				nobodysBytes(t, turned)
			}
			nobodysBytes(t, b[:at])
			nobodysBytes(t, b[at:])
		}
	}
}

func TestP1_3_NoNumbersBytesBeginAnotherOnes(t *testing.T) {
	l := edges()
	for n := range uint64(600) {
		l = append(l, n)
	}
	for _, n := range l {
		for _, k := range l {
			if n != k && bytes.HasPrefix(varint.Put(k), varint.Put(n)) {
				t.Errorf("Put(%d) begins Put(%d)", n, k)
			}
		}
	}
}

func FuzzP1_3(f *testing.F) {
	f.Add([]byte{0xac, 0x02})
	f.Add([]byte{0x80, 0x00})
	f.Add([]byte("\xff\xff\xff\xff\xff\xff\xff\xff\xff\x02"))
	f.Fuzz(func(t *testing.T, b []byte) { nobodysBytes(t, b) })
}

func TestR7_NothingIsSharedOrChanged(t *testing.T) {
	a, b := varint.Put(300), varint.Put(300)
	a[0] = 7
	if !bytes.Equal(b, []byte{0xac, 0x02}) || !bytes.Equal(varint.Put(300), b) {
		t.Errorf("Put(300) = % x behind a change of another one's", b)
	}
	for _, n := range edges() {
		// What is behind the end is not looked at, nor is anything changed there.
		room := append(plainPut(n), plainPut(n)...)
		want := bytes.Clone(room)
		half := len(room) / 2
		taken(t, room[:half-1], 0, 0, api.ErrShort)
		taken(t, room[:half], n, half, api.OK)
		if !bytes.Equal(room, want) {
			t.Errorf("Take of % x left % x", want, room)
		}
	}
}
