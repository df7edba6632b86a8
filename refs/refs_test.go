package refs_test

import (
	"fmt"
	"math"
	"slices"
	"testing"

	"coracle/api"
	"coracle/refs"
)

const maxChunk = 64 // as the chapter says it

// strange are numbers that are no chunks; of some the last bits are those of one.
var strange = []int{0, -1, -64, 65, 66, 128, 256 + 5, 1<<32 + 5, -1<<32 + 5, 1<<63 - 1, math.MinInt, math.MinInt + 5}

func snap(id int, chunks ...int) api.Snap {
	return api.Snap{ID: id, Set: 1, Chunks: chunks}
}

// sameSnaps is whether two rows of snapshots are, where chunks that are none may be nil or not.
func sameSnaps(l, m []api.Snap) bool {
	return slices.EqualFunc(l, m, func(a, b api.Snap) bool {
		return a.ID == b.ID && a.Set == b.Set && slices.Equal(a.Chunks, b.Chunks) && a.Held == b.Held && a.Tag == b.Tag
	})
}

// plainCount is how often the snapshots have a chunk.
func plainCount(l []api.Snap, chunk int) int {
	n := 0
	for _, s := range l {
		for _, c := range s.Chunks {
			if c == chunk {
				n++
			}
		}
	}
	return n
}

// plainWithout is P6.2's text.
func plainWithout(l []api.Snap, id int) []api.Snap {
	return slices.DeleteFunc(slices.Clone(l), func(s api.Snap) bool { return s.ID == id })
}

// holds fails unless each call tells what the chapter says.
func holds(t *testing.T, l []api.Snap, id int, chunks []int) {
	t.Helper()
	left := plainWithout(l, id)
	more := append(slices.Clone(l), snap(id, chunks...))
	want := make([]int, maxChunk+1)
	distinct, with, distinctLeft := 0, 0, 0
	var freed []int
	for chunk := 1; chunk <= maxChunk; chunk++ {
		want[chunk] = plainCount(l, chunk)
		has, stays := want[chunk] > 0, plainCount(left, chunk) > 0
		if has {
			distinct++
		}
		if stays {
			distinctLeft++
		}
		if plainCount(more, chunk) > 0 {
			with++
		}
		if has && !stays {
			freed = append(freed, chunk)
		}
	}
	if n := refs.Counts(l); !slices.Equal(n, want) {
		t.Errorf("Counts(%+v) = %v; want %v", l, n, want)
	}
	if n := refs.Distinct(l); n != distinct {
		t.Errorf("Distinct(%+v) = %d; want %d", l, n, distinct)
	}
	if n := refs.With(l, chunks); n != with {
		t.Errorf("With(%+v, %v) = %d; want %d", l, chunks, n, with)
	}
	rest := refs.Without(l, id)
	if !sameSnaps(rest, left) {
		t.Errorf("Without(%+v, %d) = %+v; want %+v", l, id, rest, left)
	}
	if f := refs.Freed(l, id); !slices.Equal(f, freed) {
		t.Errorf("Freed(%+v, %d) = %v; want %v", l, id, f, freed)
	}
	if n := refs.Distinct(rest); n != distinctLeft || n != distinct-len(freed) {
		t.Errorf("%d of %+v: %d of %d left, and %d freed", id, l, n, distinct, len(freed))
	}
}

func TestP6_1_Counts(t *testing.T) {
	l := []api.Snap{snap(1, 3, 5), snap(2, 5, 64), snap(3, 1), snap(4, 5, 5, 1)}
	want := make([]int, maxChunk+1)
	want[1], want[3], want[5], want[64] = 2, 1, 4, 1
	if n := refs.Counts(l); !slices.Equal(n, want) {
		t.Errorf("Counts = %v; want %v", n, want)
	}
}

func TestP6_1_CountsOfNone(t *testing.T) {
	for _, l := range [][]api.Snap{nil, {}, {{}}, {snap(1), snap(2)}, {snap(1, strange...)}} {
		if n := refs.Counts(l); !slices.Equal(n, make([]int, maxChunk+1)) {
			t.Errorf("Counts(%+v) = %v", l, n)
		}
		if n := refs.Distinct(l); n != 0 {
			t.Errorf("Distinct(%+v) = %d", l, n)
		}
		if n := refs.With(l, nil); n != 0 {
			t.Errorf("With(%+v, none) = %d", l, n)
		}
		if n := refs.With(l, []int{7, 9}); n != 2 {
			t.Errorf("With(%+v, 7 9) = %d", l, n)
		}
	}
}

func TestP6_1_Distinct(t *testing.T) {
	for _, c := range []struct {
		l    []api.Snap
		want int
	}{
		{[]api.Snap{snap(1, 3, 5), snap(2, 5)}, 2},
		{[]api.Snap{snap(1, 7)}, 1},
		{[]api.Snap{snap(1, 7, 7, 7)}, 1},
		{[]api.Snap{snap(1, 1), snap(1, 64)}, 2},
		{[]api.Snap{snap(1, 1, 2, 3), snap(2, 1, 2, 3), snap(3, 4)}, 4},
	} {
		if n := refs.Distinct(c.l); n != c.want {
			t.Errorf("Distinct(%+v) = %d; want %d", c.l, n, c.want)
		}
	}
}

func TestP6_1_With(t *testing.T) {
	l := []api.Snap{snap(1, 3, 5), snap(2, 5)}
	for _, c := range []struct {
		chunks []int
		want   int
	}{
		{nil, 2},
		{[]int{}, 2},
		{[]int{3, 5}, 2},
		{[]int{3, 7}, 3},
		{[]int{1, 64}, 4},
		{[]int{7, 7, 7}, 3},
		{[]int{64, 7, 1}, 5},
		{strange, 2},
		{append([]int{4}, strange...), 3},
	} {
		if n := refs.With(l, c.chunks); n != c.want {
			t.Errorf("With(%v) = %d; want %d", c.chunks, n, c.want)
		}
	}
}

// TestP6_1_EachNumber holds each number that may be a chunk, and some that are none.
func TestP6_1_EachNumber(t *testing.T) {
	numbers := slices.Clone(strange)
	for n := -300; n <= 300; n++ {
		numbers = append(numbers, n)
	}
	for _, n := range numbers {
		holds(t, []api.Snap{snap(1, n)}, 1, nil)
		holds(t, []api.Snap{snap(1, n, n), snap(2, n)}, 1, []int{n})
		holds(t, nil, 1, []int{n, 2})
	}
}

func TestP6_1_Many(t *testing.T) {
	var all, often []int
	for chunk := 1; chunk <= maxChunk; chunk++ {
		all = append(all, chunk)
	}
	for range 100000 {
		often = append(often, 9)
	}
	l := []api.Snap{snap(1, all...), snap(2, often...)}
	n := refs.Counts(l)
	if n[9] != 100001 || n[8] != 1 || n[0] != 0 || refs.Distinct(l) != 64 || refs.With(l, all) != 64 {
		t.Errorf("%v, %d, %d", n, refs.Distinct(l), refs.With(l, all))
	}
	if f := refs.Freed(l, 1); len(f) != 63 || slices.Contains(f, 9) {
		t.Errorf("Freed = %v", f)
	}
	if f := refs.Freed(l, 2); len(f) != 0 {
		t.Errorf("Freed = %v", f)
	}
}

func TestP6_2_Without(t *testing.T) {
	l := []api.Snap{
		{ID: 4, Set: 2, Chunks: []int{3, 5}, Held: true, Tag: "monday"},
		{ID: 2, Set: 8, Chunks: []int{5}, Tag: "no"},
		{ID: 4, Set: 3},
		{ID: 7, Set: -1, Chunks: []int{65, 0, 9, 9}, Held: true},
	}
	for _, c := range []struct {
		id   int
		want []api.Snap
	}{
		{4, []api.Snap{l[1], l[3]}},
		{2, []api.Snap{l[0], l[2], l[3]}},
		{7, l[:3]},
		{0, l}, // no place: an ID
		{1, l},
		{-4, l},
		{1<<32 + 4, l},
		{math.MinInt, l},
	} {
		if left := refs.Without(l, c.id); !sameSnaps(left, c.want) {
			t.Errorf("Without(%d) = %+v; want %+v", c.id, left, c.want)
		}
	}
	for _, id := range []int{0, -3, math.MaxInt, math.MinInt} {
		if left := refs.Without([]api.Snap{snap(id, 1), snap(5, 2), snap(id, 3)}, id); !sameSnaps(left, []api.Snap{snap(5, 2)}) {
			t.Errorf("Without(%d) = %+v", id, left)
		}
	}
}

func TestP6_2_WithoutOfNone(t *testing.T) {
	for _, l := range [][]api.Snap{nil, {}, {snap(1, 2)}, {snap(1, 2), snap(1, 3)}} {
		if left := refs.Without(l, 1); len(left) != 0 {
			t.Errorf("Without(%+v, 1) = %+v", l, left)
		}
	}
}

func TestP6_2_Freed(t *testing.T) {
	l := []api.Snap{snap(1, 3, 5), snap(2, 5), snap(3, 64, 7, 7, 1), snap(4), snap(5, 10), snap(6, 11, 5), snap(5, 12, 10, 3)}
	for _, c := range []struct {
		id   int
		want []int
	}{
		{1, nil},             // 3 is used by the second of ID 5, 5 by 2
		{2, nil},             // of chunks that others use
		{3, []int{1, 7, 64}}, // rising, once each
		{4, nil},
		{5, []int{10, 12}}, // of both of that ID
		{6, []int{11}},
		{9, nil},
		{0, nil},
		{-1, nil},
	} {
		if f := refs.Freed(l, c.id); !slices.Equal(f, c.want) {
			t.Errorf("Freed(%d) = %v; want %v", c.id, f, c.want)
		}
	}
	if f := refs.Freed(l[:2], 1); !slices.Equal(f, []int{3}) {
		t.Errorf("Freed of the chapter's example = %v", f)
	}
	for _, none := range [][]api.Snap{nil, {}, {snap(1)}, {snap(1, strange...)}} {
		if f := refs.Freed(none, 1); len(f) != 0 {
			t.Errorf("Freed(%+v, 1) = %v", none, f)
		}
	}
}

// TestP6_3_SmallRows holds all rows of up to three snapshots of few IDs and few rows of chunks.
func TestP6_3_SmallRows(t *testing.T) {
	rows := [][]int{nil, {1}, {64}, {64, 1}, {2, 2}, {0, 65, 1}, {-1, 3, 2, 3}}
	var some []api.Snap
	for _, chunks := range rows {
		for id := range 2 {
			some = append(some, snap(id, chunks...))
		}
	}
	each := func(l []api.Snap) {
		for id := -1; id <= 2; id++ {
			for _, chunks := range rows {
				holds(t, l, id, chunks)
			}
		}
	}
	each(nil)
	for _, a := range some {
		each([]api.Snap{a})
		for _, b := range some {
			each([]api.Snap{a, b})
			for _, c := range some {
				holds(t, []api.Snap{a, b, c}, 0, rows[3])
				holds(t, []api.Snap{a, b, c}, 1, rows[6])
			}
		}
	}
}

func TestP6_3_WhatIsFreedWasUsedByThoseAlone(t *testing.T) {
	// 16 snapshots of 8 chunks: what each has is a stride that grows, so that some chunks are one's alone.
	var l []api.Snap
	for id := 1; id <= 16; id++ {
		s := api.Snap{ID: id, Set: id%8 + 1}
		for k := range 8 {
			s.Chunks = append(s.Chunks, (id*id+k*id)%maxChunk+1)
		}
		l = append(l, s)
	}
	for id := 0; id <= 17; id++ {
		holds(t, l, id, []int{1, 33, 64})
		for _, chunk := range refs.Freed(l, id) {
			for _, s := range l {
				if s.ID != id && slices.Contains(s.Chunks, chunk) {
					t.Errorf("%d, freed of %d, is used by %d", chunk, id, s.ID)
				}
			}
		}
	}
}

// FuzzP6_3 takes each byte as a chunk, but those from 200 up: with each of these a snapshot begins.
func FuzzP6_3(f *testing.F) {
	f.Add([]byte("\xc9\x03\x05\xca\x05"), 201, []byte{7})
	f.Add([]byte("\xc9\x00\x41\x40\xc9\x40\x40\x01"), 202, []byte{0, 64, 65})
	f.Fuzz(func(t *testing.T, b []byte, id int, more []byte) {
		var l []api.Snap
		for _, n := range b {
			switch {
			case n >= 200:
				l = append(l, snap(int(n)))
			case len(l) > 0:
				last := &l[len(l)-1]
				last.Chunks = append(last.Chunks, int(n)-20)
			}
		}
		var chunks []int
		for _, n := range more {
			chunks = append(chunks, int(n)-20)
		}
		holds(t, l, id, chunks)
		for _, s := range l {
			holds(t, l, s.ID, chunks)
		}
	})
}

func TestR7_WhatIsHandedInIsNotChanged(t *testing.T) {
	row := []int{9, 3, 9, 77, 78}
	room := []api.Snap{snap(1, row[:3]...), snap(2, 5), snap(3, 6), snap(77, 77), snap(78, 78)}
	more := []int{8, 1, 88, 89}
	before := fmt.Sprint(row, room, more)
	l := room[:3]
	refs.Counts(l)
	refs.Distinct(l)
	refs.With(l, more[:2])
	for id := range 4 {
		refs.Freed(l, id)
		left := refs.Without(l, id)
		for i := range left {
			_ = append(left[i].Chunks, 99)
		}
		_ = append(left, snap(99))
	}
	if after := fmt.Sprint(row, room, more); after != before {
		t.Errorf("%s became %s", before, after)
	}
}

func TestR7_WhatIsAnsweredIsTheCallersOwn(t *testing.T) {
	row := []int{3, 5}
	l := []api.Snap{{ID: 1, Chunks: row}, {ID: 2, Chunks: row}, {ID: 3, Chunks: []int{6}}}
	for id := range 4 {
		left := refs.Without(l, id)
		for i := range left {
			left[i].ID = 50 + i
			for k := range left[i].Chunks {
				if left[i].Chunks[k] >= 50 {
					t.Errorf("Without(%d): two lists share their chunks: %+v", id, left)
				}
				left[i].Chunks[k] = 50 + i
			}
		}
	}
	if l[0].ID != 1 || l[2].ID != 3 || row[0] != 3 || row[1] != 5 || l[2].Chunks[0] != 6 {
		t.Errorf("a change of what was answered is seen in what was handed in: %+v", l)
	}
	left := refs.Without(l, 3)
	row[0], l[0].Set = 4, 9
	if !sameSnaps(left, []api.Snap{{ID: 1, Chunks: []int{3, 5}}, {ID: 2, Chunks: []int{3, 5}}}) {
		t.Errorf("a change of what was handed in is seen in what was answered: %+v", left)
	}
}

func TestR6_CallsDoNotHangOnEachOther(t *testing.T) {
	l := []api.Snap{snap(1, 3, 5), snap(2, 5)}
	for range 3 {
		n, f := refs.Counts(l), refs.Freed(l, 1)
		if n[3] != 1 || n[5] != 2 || !slices.Equal(f, []int{3}) {
			t.Errorf("%v, %v", n, f)
		}
		for i := range n {
			n[i] = 7
		}
		f[0] = 7
		if refs.With(l, []int{9}) != 3 || refs.Distinct(l) != 2 {
			t.Errorf("With = %d, Distinct = %d", refs.With(l, []int{9}), refs.Distinct(l))
		}
	}
}
