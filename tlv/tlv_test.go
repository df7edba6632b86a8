package tlv_test

import (
	"bytes"
	"fmt"
	"math"
	"slices"
	"strings"
	"testing"

	"coracle/api"
	"coracle/tag"
	"coracle/tlv"
	"coracle/varint"
)

const mostBytes = 16384 // as P3.1 says it

// number and text are fields of the two kinds.
func number(num int, n uint64) api.Field { return api.Field{Num: num, N: n} }

func text(num int, s string) api.Field {
	return api.Field{Num: num, Wire: api.Bytes, B: []byte(s)}
}

// long is a field of that many bytes.
func long(num, size int) api.Field {
	return api.Field{Num: num, Wire: api.Bytes, B: bytes.Repeat([]byte{0x80}, size)}
}

// plainField is what P3.2 says of one field.
func plainField(f api.Field) []byte {
	b := varint.Put(8*uint64(f.Num) + uint64(f.Wire))
	if f.Wire == api.Number {
		return append(b, varint.Put(f.N)...)
	}
	return append(append(b, varint.Put(uint64(len(f.B)))...), f.B...)
}

// plainPut is P3.2's text; plainMay is P3.1's, each of its sentences over the row.
func plainPut(l []api.Field) []byte {
	var b []byte
	for _, f := range l {
		b = append(b, plainField(f)...)
	}
	return b
}

func plainMay(l []api.Field) api.Errno {
	for i, f := range l {
		if f.Num < 1 || f.Num > 1000 || f.Wire != 0 && f.Wire != 2 {
			return api.ErrArg
		}
		if f.Wire == 0 && len(f.B) != 0 || f.Wire == 2 && f.N != 0 {
			return api.ErrArg
		}
		if i > 0 && f.Num < l[i-1].Num {
			return api.ErrOrder
		}
		if i > 0 && f.Num == l[i-1].Num && (f.Wire != 2 || l[i-1].Wire != 2) {
			return api.ErrOrder
		}
		if len(f.B) > mostBytes {
			return api.ErrBig
		}
	}
	if len(plainPut(l)) > mostBytes {
		return api.ErrBig
	}
	return api.OK
}

// same is whether two rows are, where bytes that are none may be nil or not.
func same(l, m []api.Field) bool {
	return slices.EqualFunc(l, m, func(f, g api.Field) bool {
		return f.Num == g.Num && f.Wire == g.Wire && f.N == g.N && bytes.Equal(f.B, g.B)
	})
}

// show is a row as a failing test tells it, cut where it gets long.
func show(l []api.Field) string {
	s := fmt.Sprint(l)
	return s[:min(len(s), 200)]
}

// cloned is a row that shares nothing with l.
func cloned(l []api.Field) []api.Field {
	m := slices.Clone(l)
	for i := range m {
		m[i].B = bytes.Clone(m[i].B)
	}
	return m
}

// told fails unless May and Put tell e of l; and Put, if that is OK, what P3.2 says.
func told(t *testing.T, l []api.Field, e api.Errno) {
	t.Helper()
	if got := tlv.May(l); got != e {
		t.Errorf("May(%s) = %d; want %d", show(l), got, e)
	}
	var want []byte
	if e == api.OK {
		want = plainPut(l)
	}
	if b, got := tlv.Put(l); got != e || !bytes.Equal(b, want) {
		t.Errorf("Put(%s) = % .40x, %d; want % .40x, %d", show(l), b, got, want, e)
	}
}

func taken(t *testing.T, b []byte, l []api.Field, e api.Errno) {
	t.Helper()
	if got, gotE := tlv.Take(b); !same(got, l) || gotE != e {
		t.Errorf("Take of % .40x: %s, %d; want %s, %d", b, show(got), gotE, show(l), e)
	}
}

func TestP3_1_RowsThatMayBe(t *testing.T) {
	for _, l := range [][]api.Field{
		nil,
		{},
		{number(1, 0)},
		{number(1000, math.MaxUint64)},
		{text(1, "")},
		{text(1000, "\x00")},
		{{Num: 1, N: 5, B: []byte{}}},
		{{Num: 1, Wire: api.Bytes, B: []byte{}}},
		{number(1, 5), text(2, "\x07\x07")},
		{number(1, 5), number(2, 4), number(3, 0)},
		{number(1, 1), number(1000, 1)},
		{text(3, "b"), text(3, "a"), text(3, "a"), text(3, ""), text(3, "c")},
		{text(1, "a"), text(1, "a"), number(2, 1), text(3, "a"), text(3, "a")},
	} {
		told(t, l, api.OK)
	}
}

func TestP3_1_WrongFields(t *testing.T) {
	for _, f := range []api.Field{
		{Num: 0},
		{Num: -1},
		{Num: 1001},
		{Num: math.MaxInt},
		{Num: math.MinInt},
		{Num: 1<<61 + 1},
		{Num: 0, Wire: api.Bytes},
		{Num: 1001, Wire: api.Bytes},
		{Num: 1, Wire: 1},
		{Num: 1, Wire: 3},
		{Num: 1, Wire: 8},
		{Num: 1, Wire: 10},
		{Num: 1, Wire: -1},
		{Num: 1, Wire: -2},
		{Num: 2, Wire: -8},
		{Num: 1, Wire: math.MaxInt},
		{Num: 1, Wire: math.MinInt},
		{Num: 1, N: 5, B: []byte{0}},
		{Num: 1, B: []byte{7}},
		{Num: 1, Wire: api.Bytes, N: 1},
		{Num: 1, Wire: api.Bytes, N: 1, B: []byte{7}},
		{Num: 1, Wire: api.Bytes, N: 1 << 32},
		{Num: 1, Wire: api.Bytes, N: 1 << 63},
		{Num: 1, Wire: api.Bytes, N: math.MaxUint64, B: []byte{7}},
	} {
		told(t, []api.Field{f}, api.ErrArg)
		told(t, []api.Field{number(1, 1), f}, api.ErrArg)
		told(t, []api.Field{f, number(1000, 1)}, api.ErrArg)
	}
}

func TestP3_1_FieldsThatDoNotRise(t *testing.T) {
	for _, l := range [][]api.Field{
		{number(2, 1), number(1, 1)},
		{number(2, 1), text(1, "a")},
		{text(2, "a"), number(1, 1)},
		{text(2, "a"), text(1, "a")},
		{number(1000, 1), number(999, 1)},
		// As the one ahead: both must be Bytes.
		{number(2, 1), number(2, 1)},
		{number(2, 1), text(2, "")},
		{text(2, ""), number(2, 1)},
		{text(2, "a"), text(2, "b"), number(2, 1)},
		// It is the field ahead that counts, not the first one, nor the greatest.
		{number(1, 1), number(3, 1), number(2, 1)},
		{text(2, "a"), text(3, "a"), text(2, "a")},
		{number(1, 1), text(2, "a"), text(2, "b"), text(1, "c")},
	} {
		told(t, l, api.ErrOrder)
	}
}

func TestP3_1_TooManyBytes(t *testing.T) {
	for _, c := range []struct {
		l    []api.Field
		size int
	}{
		// A tag of one byte or two, a number of two or three, and the bytes.
		{[]api.Field{long(1, 16381)}, 16384},
		{[]api.Field{long(1, 16382)}, 16385},
		{[]api.Field{long(1, 16383)}, 16386},
		{[]api.Field{long(1, 16384)}, 16388},
		{[]api.Field{long(1, 16385)}, 16389},
		{[]api.Field{long(1, 1<<17)}, 1<<17 + 4},
		{[]api.Field{long(16, 16380)}, 16384},
		{[]api.Field{long(16, 16381)}, 16385},
		{[]api.Field{long(1, 16379), number(2, 1)}, 16384},
		{[]api.Field{long(1, 16379), number(2, 128)}, 16385},
		{[]api.Field{long(1, 16379), number(16, 1)}, 16385},
		{[]api.Field{long(1, 16379), text(2, "")}, 16384},
		{[]api.Field{long(1, 16379), text(2, "a")}, 16385},
		{[]api.Field{long(1, 8000), long(1, 8000), long(1, 375)}, 16384},
		{[]api.Field{long(1, 8000), long(1, 8000), long(1, 376)}, 16385},
	} {
		if size := len(plainPut(c.l)); size != c.size {
			t.Fatalf("a row of %d bytes, not %d", size, c.size)
		}
		if c.size > mostBytes {
			told(t, c.l, api.ErrBig)
		} else {
			told(t, c.l, api.OK)
		}
	}
	// As many fields as there may be, and one more.
	told(t, slices.Repeat([]api.Field{text(1, "")}, mostBytes/2), api.OK)
	told(t, slices.Repeat([]api.Field{text(1, "")}, mostBytes/2+1), api.ErrBig)
}

func TestP3_1_TheFirstFieldThatIsWrong(t *testing.T) {
	wrongArg, tooBig := api.Field{Num: 2, Wire: 1}, long(2, mostBytes+1)
	for _, c := range []struct {
		l []api.Field
		e api.Errno
	}{
		{[]api.Field{number(2, 1), number(1, 1), wrongArg}, api.ErrOrder},
		{[]api.Field{wrongArg, number(3, 1), number(1, 1)}, api.ErrArg},
		{[]api.Field{tooBig, wrongArg}, api.ErrBig},
		{[]api.Field{wrongArg, tooBig}, api.ErrArg},
		{[]api.Field{tooBig, number(1, 1)}, api.ErrBig},
		{[]api.Field{number(3, 1), number(1, 1), tooBig}, api.ErrOrder},
		// Of one field ErrArg is told ahead of ErrOrder, and that ahead of ErrBig.
		{[]api.Field{number(5, 1), wrongArg}, api.ErrArg},
		{[]api.Field{number(5, 1), {Num: 2, B: []byte{7}}}, api.ErrArg},
		{[]api.Field{number(5, 1), {Num: 2, Wire: api.Bytes, N: 1}}, api.ErrArg},
		{[]api.Field{number(5, 1), {Num: 0}}, api.ErrArg},
		{[]api.Field{{Num: 1, Wire: api.Bytes, N: 1, B: make([]byte, mostBytes+1)}}, api.ErrArg},
		{[]api.Field{{Num: 1, B: make([]byte, mostBytes+1)}}, api.ErrArg},
		{[]api.Field{number(5, 1), tooBig}, api.ErrOrder},
		// The row's length is looked at behind all fields.
		{[]api.Field{long(1, 9000), long(1, 9000), wrongArg}, api.ErrArg},
		{[]api.Field{long(1, 9000), long(1, 9000), number(1, 1)}, api.ErrOrder},
		{[]api.Field{long(1, mostBytes), number(1, 1)}, api.ErrOrder},
		{[]api.Field{long(1, 9000), long(2, 9000)}, api.ErrBig},
	} {
		told(t, c.l, c.e)
	}
}

// menu is fields of which rows are made: some may be, some not, some only behind some.
func menu() []api.Field {
	return []api.Field{
		number(1, 0), number(2, 300), number(1000, math.MaxUint64),
		text(1, ""), text(2, "\x07\x07"), text(2, "\x08\x05"), text(1000, "a"),
		long(2, 8190), long(2, mostBytes-3), long(2, mostBytes), long(2, mostBytes+1),
		{Num: 0}, {Num: 1001}, {Num: 2, Wire: 1}, {Num: 2, B: []byte{1}}, {Num: 2, Wire: api.Bytes, N: 1},
		{Num: 1, B: []byte{}},
	}
}

func TestP3_1_AllRowsOfThree(t *testing.T) {
	m := menu()
	for _, f := range m {
		told(t, []api.Field{f}, plainMay([]api.Field{f}))
		for _, g := range m {
			told(t, []api.Field{f, g}, plainMay([]api.Field{f, g}))
			for _, h := range m {
				l := []api.Field{f, g, h}
				told(t, l, plainMay(l))
			}
		}
	}
}

func TestP3_2_Put(t *testing.T) {
	for _, c := range []struct {
		l    []api.Field
		want string
	}{
		{nil, ""},
		{[]api.Field{}, ""},
		{[]api.Field{number(1, 5), text(2, "\x07\x07")}, "\x08\x05\x12\x02\x07\x07"},
		{[]api.Field{number(1, 0)}, "\x08\x00"},
		{[]api.Field{{Num: 1, Wire: api.Bytes}}, "\x0a\x00"},
		{[]api.Field{number(16, 300)}, "\x80\x01\xac\x02"},
		{[]api.Field{number(1000, math.MaxUint64)}, "\xc0\x3e\xff\xff\xff\xff\xff\xff\xff\xff\xff\x01"},
		{[]api.Field{text(1000, "a"), text(1000, ""), text(1000, "bc")}, "\xc2\x3e\x01a\xc2\x3e\x00\xc2\x3e\x02bc"},
		{[]api.Field{text(1, strings.Repeat("x", 300))}, "\x0a\xac\x02" + strings.Repeat("x", 300)},
	} {
		if b, e := tlv.Put(c.l); string(b) != c.want || e != api.OK {
			t.Errorf("Put(%s) = % .40x, %d; want % .40x", show(c.l), b, e, c.want)
		}
	}
}

func TestP3_2_Take(t *testing.T) {
	for _, c := range []struct {
		b string
		l []api.Field
	}{
		{"", nil},
		{"\x08\x05\x12\x02\x07\x07", []api.Field{number(1, 5), text(2, "\x07\x07")}},
		{"\x08\x00", []api.Field{number(1, 0)}},
		{"\x0a\x00", []api.Field{text(1, "")}},
		{"\x80\x01\xac\x02", []api.Field{number(16, 300)}},
		{"\xc0\x3e\xff\xff\xff\xff\xff\xff\xff\xff\xff\x01", []api.Field{number(1000, math.MaxUint64)}},
		{"\x0a\x01b\x0a\x00\x0a\x01a\x10\x01", []api.Field{text(1, "b"), text(1, ""), text(1, "a"), number(2, 1)}},
		// Bytes that would be fields themselves are not looked into.
		{"\x0a\x02\x09\x01", []api.Field{text(1, "\x09\x01")}},
	} {
		taken(t, []byte(c.b), c.l, api.OK)
	}
	taken(t, nil, nil, api.OK)
	l, _ := tlv.Take([]byte("\x0a\x00\x10\x05"))
	if len(l) != 2 || len(l[0].B) != 0 || l[1].B != nil {
		t.Errorf("bytes of what has none: %v", l)
	}
}

func TestP3_2_TakeTellsWhatSkipTells(t *testing.T) {
	for _, c := range []struct {
		b string
		e api.Errno
	}{
		{"\x08", api.ErrShort},
		{"\x80", api.ErrShort},
		{"\x08\x80", api.ErrShort},
		{"\x0a", api.ErrShort},
		{"\x0a\x01", api.ErrShort},
		{"\x0a\x03ab", api.ErrShort},
		{"\x08\x80\x00", api.ErrCorrupt},
		{"\x88\x00\x05", api.ErrCorrupt},
		{"\x0a\x81\x00a", api.ErrCorrupt},
		{"\x08\xff\xff\xff\xff\xff\xff\xff\xff\xff\x02", api.ErrCorrupt},
		{"\x0a\x81\x80\x01", api.ErrBig},
		{"\x0a\xff\xff\xff\xff\xff\xff\xff\xff\xff\x01", api.ErrBig},
		{"\x00\x05", api.ErrField},
		{"\x09\x01", api.ErrField},
		{"\x0b", api.ErrField},
		{"\xc8\x3e\x05", api.ErrField},
	} {
		taken(t, []byte(c.b), nil, c.e)
		// What stands ahead, even if it is as it should be, is not told beside an error.
		taken(t, []byte("\x08\x05"+c.b), nil, c.e)
		taken(t, []byte("\x0a\x01a\x0a\x01b"+c.b), nil, c.e)
		if _, e := tag.Skip([]byte(c.b)); e != c.e {
			t.Errorf("Skip of % x: %d; want %d", c.b, e, c.e)
		}
	}
}

func TestP3_2_TakeOfFieldsThatDoNotRise(t *testing.T) {
	for _, b := range []string{
		"\x10\x01\x08\x01",
		"\x10\x01\x0a\x00",
		"\x12\x00\x08\x01",
		"\x12\x00\x0a\x00",
		"\x08\x01\x08\x01",
		"\x08\x01\x0a\x00",
		"\x0a\x00\x08\x01",
		"\x0a\x00\x0a\x00\x08\x01",
		"\x08\x01\x18\x01\x10\x01",
		"\xc0\x3e\x01\xb8\x3e\x01",
	} {
		taken(t, []byte(b), nil, api.ErrOrder)
		// Field by field: what is wrong behind is not told.
		taken(t, []byte(b+"\x09"), nil, api.ErrOrder)
		taken(t, []byte(b+"\x80\x00"), nil, api.ErrOrder)
	}
	// Of one field what Skip tells is told ahead.
	taken(t, []byte("\x10\x01\x08"), nil, api.ErrShort)
	taken(t, []byte("\x10\x01\x08\x80\x00"), nil, api.ErrCorrupt)
	taken(t, []byte("\x10\x01\x0a\x81\x80\x01"), nil, api.ErrBig)
	taken(t, []byte("\x10\x01\x0a\x05a"), nil, api.ErrShort)
	taken(t, []byte("\x10\x01\x09\x05"), nil, api.ErrField)
}

func TestP3_2_TakeOfTooManyBytes(t *testing.T) {
	full := []api.Field{long(1, mostBytes-3)}
	taken(t, plainPut(full), full, api.OK)
	full = slices.Repeat([]api.Field{text(1, "")}, mostBytes/2)
	taken(t, plainPut(full), full, api.OK)
	taken(t, plainPut([]api.Field{long(1, mostBytes-2)}), nil, api.ErrBig)
	taken(t, plainPut(slices.Repeat(full, 2)), nil, api.ErrBig)
	// Told ahead of all else that is wrong.
	for _, c := range []byte{0, 0x08, 0x09, 0x80, 0xff} {
		taken(t, bytes.Repeat([]byte{c}, mostBytes+1), nil, api.ErrBig)
		taken(t, bytes.Repeat([]byte{c}, 1<<17), nil, api.ErrBig)
	}
	taken(t, make([]byte, mostBytes), nil, api.ErrField)
	taken(t, bytes.Repeat([]byte{0x08}, mostBytes), nil, api.ErrOrder)
	taken(t, bytes.Repeat([]byte{0xff}, mostBytes), nil, api.ErrCorrupt)
}

func splits(t *testing.T, l []api.Field, most int) {
	t.Helper()
	var wantKnown, wantRest []api.Field
	for i := range l {
		if l[i].Num > most {
			wantRest = append(wantRest, l[i])
		} else {
			wantKnown = append(wantKnown, l[i])
		}
	}
	known, rest := tlv.Split(l, most)
	if !same(known, wantKnown) || !same(rest, wantRest) {
		t.Errorf("Split(%s, %d) = %s, %s; want %s, %s", show(l), most, show(known), show(rest), show(wantKnown), show(wantRest))
	}
}

func TestP3_3_Split(t *testing.T) {
	l := []api.Field{number(1, 5), text(2, "a"), text(2, ""), number(9, 300), text(1000, "b")}
	for most, known := range map[int]int{math.MinInt: 0, -1: 0, 0: 0, 1: 1, 2: 3, 3: 3, 8: 3, 9: 4, 999: 4, 1000: 5, 1001: 5, math.MaxInt: 5} {
		gotKnown, gotRest := tlv.Split(l, most)
		if !same(gotKnown, l[:known]) || !same(gotRest, l[known:]) {
			t.Errorf("Split at %d: %v, %v", most, gotKnown, gotRest)
		}
	}
	for _, most := range []int{-1, 0, 1, 1000} {
		if known, rest := tlv.Split(nil, most); len(known) != 0 || len(rest) != 0 {
			t.Errorf("Split of none at %d: %v, %v", most, known, rest)
		}
	}
}

func TestP3_3_SplitOfRowsThatMayNotBe(t *testing.T) {
	l := []api.Field{
		number(9, 1), {Num: 0, Wire: 1}, text(2, "a"), {Num: math.MaxInt, N: 3, B: []byte{7}}, number(9, 2),
		{Num: math.MinInt, Wire: -1}, number(2, 7), {Num: -1, Wire: 2, N: 1}, number(1001, 3), number(1, 1),
	}
	for _, most := range []int{math.MinInt, math.MinInt + 1, -2, -1, 0, 1, 2, 8, 9, 10, 1000, 1001, math.MaxInt - 1, math.MaxInt} {
		splits(t, l, most)
	}
	for _, f := range menu() {
		for _, g := range menu() {
			splits(t, []api.Field{f, g, f}, f.Num)
			splits(t, []api.Field{f, g, f}, f.Num-1)
		}
	}
}

// rows are rows that may be, of fields of the menu.
func rows() [][]api.Field {
	var all [][]api.Field
	for _, f := range menu() {
		for _, g := range menu() {
			for _, l := range [][]api.Field{{f}, {f, g}, {f, g, text(1000, "z")}, {f, g, number(1000, 1)}} {
				if plainMay(l) == api.OK {
					all = append(all, l)
				}
			}
		}
	}
	return all
}

func TestP3_4_WhatWasPutIsTaken(t *testing.T) {
	for _, l := range rows() {
		b, e := tlv.Put(l)
		if e != api.OK {
			t.Fatalf("Put(%s): %d", show(l), e)
		}
		taken(t, b, l, api.OK)
	}
	var each []api.Field
	for num := 1; num <= api.MaxField; num++ {
		each = append(each, number(num, uint64(num)<<(num%50)))
	}
	b, e := tlv.Put(each)
	if e != api.OK {
		t.Fatalf("Put of a field of each number: %d", e)
	}
	taken(t, b, each, api.OK)
}

// holds fails if what is told of b is not what P3.2 and P3.4 let be told of any bytes.
func holds(t *testing.T, b []byte) {
	t.Helper()
	l, e := tlv.Take(b)
	if e == api.OK {
		if p, e := tlv.Put(l); e != api.OK || !bytes.Equal(p, b) {
			t.Errorf("Take of % .40x: %s, which is put as % .40x, %d", b, show(l), p, e)
		}
		for _, most := range []int{0, 1, 2, 500, 1000} {
			known, rest := tlv.Split(l, most)
			if !same(slices.Concat(known, rest), l) {
				t.Errorf("Split(%s, %d) = %s, %s", show(l), most, show(known), show(rest))
			}
		}
		return
	}
	if len(l) != 0 {
		t.Errorf("Take of % .40x: %s beside error %d", b, show(l), e)
	}
	if want := firstWrong(b); e != want {
		t.Errorf("Take of % .40x: error %d; want %d", b, e, want)
	}
}

// firstWrong is P3.2's text of Take, by tag's calls alone.
func firstWrong(b []byte) api.Errno {
	if len(b) > mostBytes {
		return api.ErrBig
	}
	for num, wire := 0, 0; len(b) > 0; {
		size, e := tag.Skip(b)
		if e != api.OK {
			return e
		}
		nextNum, nextWire, _, _ := tag.Take(b)
		if nextNum < num || nextNum == num && (wire != 2 || nextWire != 2) {
			return api.ErrOrder
		}
		num, wire, b = nextNum, nextWire, b[size:]
	}
	return api.OK
}

func TestP3_4_NobodyElsesBytesAreTaken(t *testing.T) {
	letters := []byte("\x00\x01\x02\x08\x09\x0a\x10\x12\x80\x82\xff")
	row := make([]byte, 5)
	for n := range 11 * 11 * 11 * 11 * 11 {
		for i := range row {
			row[i] = letters[n%11]
			n /= 11
		}
		for size := range len(row) + 1 {
			holds(t, row[:size:size])
		}
	}
	for _, l := range rows() {
		b := plainPut(l)
		for at := 0; at < len(b); at += 1 + at/8 {
			turned := bytes.Clone(b)
			for _, c := range []byte{b[at] ^ 0x80, b[at] ^ 1, b[at] ^ 2, b[at] ^ 8, 0} {
				turned[at] = c
				holds(t, turned)
			}
			holds(t, b[:at])
			holds(t, b[at:])
		}
		holds(t, append(b, b...))
	}
}

func TestP3_4_SplitFieldsOneBehindTheOtherAreAll(t *testing.T) {
	for _, l := range rows() {
		for _, most := range []int{-1, 0, 1, 2, 999, 1000, 1001} {
			known, rest := tlv.Split(l, most)
			if !same(slices.Concat(known, rest), l) {
				t.Errorf("Split(%s, %d) = %s, %s", show(l), most, show(known), show(rest))
			}
			for _, part := range [][]api.Field{known, rest} {
				if e := tlv.May(part); e != api.OK {
					t.Errorf("May of a part of %s at %d: %d", show(l), most, e)
				}
			}
		}
	}
}

func FuzzP3_4(f *testing.F) {
	f.Add([]byte("\x08\x05\x12\x02\x07\x07"))
	f.Add([]byte("\x0a\x01b\x0a\x00\x0a\x01a\x10\x01"))
	f.Add([]byte("\xc2\x3e\x01a\xc2\x3e\x00\xc2\x3e\x02bc"))
	f.Add([]byte("\x10\x01\x08\x01"))
	f.Fuzz(func(t *testing.T, b []byte) { holds(t, b) })
}

func TestR7_WhatIsHandedInIsNotChanged(t *testing.T) {
	for _, l := range append(rows(), menu()) {
		room := append(cloned(l), number(7, 7), text(7, "room"))
		for i := range room {
			room[i].B = append(room[i].B, "room"...)[:len(room[i].B)]
		}
		want := cloned(room)
		part := room[:len(l)]
		tlv.May(part)
		tlv.Put(part)
		tlv.Split(part, 2)
		if !same(room, want) {
			t.Errorf("%s became %s", show(want), show(room))
		}
		for _, f := range room {
			if string(f.B[len(f.B):len(f.B)+4]) != "room" {
				t.Errorf("the room behind %s was changed", show([]api.Field{f}))
			}
		}
	}
	b := []byte("\x08\x05\x12\x02\x07\x07\x12\x01\x09")
	want := bytes.Clone(b)
	taken(t, b[:6], []api.Field{number(1, 5), text(2, "\x07\x07")}, api.OK)
	taken(t, b[:5], nil, api.ErrShort)
	if !bytes.Equal(b, want) {
		t.Errorf("% x became % x", want, b)
	}
}

func TestR7_WhatIsAnsweredIsTheCallersOwn(t *testing.T) {
	b := []byte("\x08\x05\x12\x02\x07\x07\x12\x01\x09")
	want := []api.Field{number(1, 5), text(2, "\x07\x07"), text(2, "\x09")}
	l, _ := tlv.Take(b)
	clear(b)
	if !same(l, want) {
		t.Errorf("behind a change of the bytes: %v", l)
	}
	_ = append(l[1].B, 1, 1, 1, 1)
	if !same(l, want) {
		t.Errorf("behind one more byte of a field: %v", l)
	}

	known, rest := tlv.Split(l, 1)
	known[0].N, rest[0].Num = 6, 7
	_ = append(known, number(8, 8))
	if !same(l, want) || !same(rest, []api.Field{text(7, "\x07\x07"), text(2, "\x09")}) {
		t.Errorf("behind changes of what Split told: %v, %v", l, rest)
	}

	p, _ := tlv.Put(l)
	clear(p)
	if again, _ := tlv.Put(l); !same(l, want) || string(again) != "\x08\x05\x12\x02\x07\x07\x12\x01\x09" {
		t.Errorf("behind a change of what Put told: %v, % x", l, again)
	}
}

// What a call answers hangs on its own row, not on the field with which an earlier one ended.
func TestR6_CallsDoNotHangOnEachOther(t *testing.T) {
	high, low := []api.Field{number(9, 1)}, []api.Field{number(1, 1)}
	for range 3 {
		told(t, high, api.OK)
		told(t, low, api.OK)
		told(t, []api.Field{high[0], low[0]}, api.ErrOrder)
		taken(t, []byte("\x48\x01"), high, api.OK)
		taken(t, []byte("\x08\x01"), low, api.OK)
		taken(t, []byte("\x48\x01\x08\x01"), nil, api.ErrOrder)
	}
}
