package command_test

import (
	"bytes"
	"fmt"
	"math"
	"slices"
	"strings"
	"testing"

	"coracle/api"
	"coracle/command"
	"coracle/forms"
	"coracle/tlv"
	"coracle/varint"
)

const (
	versions = 3
	million  = 1 << 20 // 2^20, as P5.2 says it
)

// needs is P5.1's list: the version that each kind needs.
var needs = map[int]int{1: 1, 2: 1, 3: 1, 4: 1, 5: 1, 6: 1, 7: 1, 8: 1, 9: 2, 10: 2, 11: 3, 12: 3}

// good is a command of each kind that may be.
var good = map[int]api.Command{
	api.Register: {Kind: 1, Client: 3},
	api.Begin:    {Kind: 2, Client: 8, Seq: million, Set: 8},
	api.Commit:   {Kind: 3, Client: 1, Seq: 1, Set: 1, Chunks: []int{1, 5, 64}},
	api.Abort:    {Kind: 4, Client: 1, Seq: 300, Set: 2},
	api.Prune:    {Kind: 5, Client: 2, Seq: 7, ID: million},
	api.Keep:     {Kind: 6, Client: 2, Seq: 8, N: 8},
	api.Look:     {Kind: 7, Client: 2, Seq: 9, ID: 1},
	api.Bump:     {Kind: 8, N: 2},
	api.Hold:     {Kind: 9, Client: 4, Seq: 1, ID: 128},
	api.Release:  {Kind: 10, Client: 4, Seq: 2, ID: 128},
	api.Tag:      {Kind: 11, Client: 5, Seq: 1, ID: 3, Text: "monday"},
	api.Quota:    {Kind: 12, Client: 5, Seq: 2, N: 64},
}

// number and text are fields of the two kinds.
func number(num int, n uint64) api.Field { return api.Field{Num: num, N: n} }

func text(num int, s string) api.Field {
	return api.Field{Num: num, Wire: api.Bytes, B: []byte(s)}
}

// with is a command of which one part is another.
func with(c api.Command, change func(c *api.Command)) api.Command {
	c.Chunks = slices.Clone(c.Chunks)
	change(&c)
	return c
}

// same is whether two commands are, where chunks that are none may be nil or not.
func same(a, b api.Command) bool {
	numbers := func(c api.Command) [6]int { return [6]int{c.Kind, c.Client, c.Seq, c.Set, c.ID, c.N} }
	return numbers(a) == numbers(b) && slices.Equal(a.Chunks, b.Chunks) && a.Text == b.Text
}

// sameRow is whether two rows of fields are, where bytes that are none may be nil or not.
func sameRow(l, m []api.Field) bool {
	return slices.EqualFunc(l, m, func(f, g api.Field) bool {
		return f.Num == g.Num && f.Wire == g.Wire && f.N == g.N && bytes.Equal(f.B, g.B)
	})
}

// within is whether each of the numbers is from one to another.
func within(least, most int, l ...int) bool {
	return !slices.ContainsFunc(l, func(n int) bool { return n < least || n > most })
}

// plainRow is whether l is what P5.1 says of a row of chunks.
func plainRow(l []int) bool {
	for i := range l {
		if !within(l[i]+1, 64, l[i+1:]...) {
			return false
		}
	}
	return within(1, 8, len(l)) && within(1, 64, l...)
}

// show is a command, a row or bytes as a failing test tells them, cut where that gets long.
func show(x any) string {
	s := fmt.Sprintf("%+v", x)
	if b, ok := x.([]byte); ok {
		s = fmt.Sprintf("% x", b)
	}
	return s[:min(len(s), 200)]
}

// plainMay is P5.2's text.
func plainMay(c api.Command, version int) api.Errno {
	if version < 1 || version > versions || needs[c.Kind] == 0 {
		return api.ErrArg
	}
	if needs[c.Kind] > version {
		return api.ErrVersion
	}
	none := api.Command{Kind: c.Kind}
	of := func(kinds ...int) bool { return slices.Contains(kinds, c.Kind) }
	ok := true
	if !of(api.Bump) {
		ok = ok && within(1, 8, c.Client)
		none.Client = c.Client
	}
	if !of(api.Bump, api.Register) {
		ok = ok && within(1, million, c.Seq)
		none.Seq = c.Seq
	}
	if of(api.Begin, api.Commit, api.Abort) {
		ok = ok && within(1, 8, c.Set)
		none.Set = c.Set
	}
	if of(api.Commit) {
		ok = ok && plainRow(c.Chunks)
		none.Chunks = c.Chunks
	}
	if of(api.Prune, api.Look, api.Hold, api.Release, api.Tag) {
		ok = ok && within(1, million, c.ID)
		none.ID = c.ID
	}
	switch c.Kind {
	case api.Keep:
		ok = ok && within(0, 8, c.N)
		none.N = c.N
	case api.Bump:
		ok = ok && within(2, 3, c.N)
		none.N = c.N
	case api.Quota:
		ok = ok && within(0, 64, c.N)
		none.N = c.N
	case api.Tag:
		ok = ok && len(c.Text) <= 16
		none.Text = c.Text
	}
	if !ok || !same(c, none) {
		return api.ErrArg
	}
	return api.OK
}

// plainForeign is what P5.2 says of a foreign command.
func plainForeign(c api.Command, version int) bool {
	if needs[c.Kind] != 0 && needs[c.Kind] <= version {
		return false
	}
	most := 0
	if version >= 3 {
		most = 16
	}
	return within(1, 99, c.Kind) && within(0, million, c.Client, c.Seq, c.Set, c.ID, c.N) &&
		(len(c.Chunks) == 0 || plainRow(c.Chunks)) && len(c.Text) <= most
}

// plainPut is P5.3's text.
func plainPut(c api.Command, rest []api.Field, version int) ([]byte, api.Errno) {
	if version < 1 || version > versions {
		return nil, api.ErrArg
	}
	if e := plainMay(c, version); e != api.OK && !plainForeign(c, version) {
		return nil, e
	}
	top := []int{7, 7, 8}[version-1]
	if slices.ContainsFunc(rest, func(f api.Field) bool { return f.Num <= top }) {
		return nil, api.ErrField
	}
	var chunks []byte
	for _, n := range c.Chunks {
		chunks = append(chunks, byte(n))
	}
	l := []api.Field{
		number(1, uint64(c.Kind)), number(2, uint64(c.Client)), number(3, uint64(c.Seq)), number(4, uint64(c.Set)),
		number(5, uint64(c.ID)), number(6, uint64(c.N)), text(7, string(chunks)), text(8, c.Text),
	}
	l = slices.DeleteFunc(l, func(f api.Field) bool { return f.N == 0 && len(f.B) == 0 })
	return tlv.Put(append(l, rest...))
}

func may(t *testing.T, c api.Command, version int, want api.Errno) {
	t.Helper()
	if e := command.May(c, version); e != want {
		t.Errorf("May(%+v, %d) = %d; want %d", c, version, e, want)
	}
}

// put fails unless Put tells e and, if that is OK, these bytes, of which Take tells the command and the rest.
func put(t *testing.T, c api.Command, rest []api.Field, version int, want string, e api.Errno) {
	t.Helper()
	b, got := command.Put(c, rest, version)
	if string(b) != want || got != e {
		t.Errorf("Put(%s, %s, %d) = %s, %d; want %s, %d", show(c), show(rest), version, show(b), got, show([]byte(want)), e)
	}
	if got == api.OK {
		took(t, b, version, c, rest, api.OK)
	}
}

func took(t *testing.T, b []byte, version int, want api.Command, wantRest []api.Field, wantE api.Errno) {
	t.Helper()
	c, rest, e := command.Take(b, version)
	if !same(c, want) || !sameRow(rest, wantRest) || e != wantE {
		t.Errorf("Take(%s, %d) = %s, %s, %d; want %s, %s, %d", show(b), version, show(c), show(rest), e, show(want), show(wantRest), wantE)
	}
}

// refused fails unless Take tells that error, and nothing else.
func refused(t *testing.T, b string, version int, e api.Errno) {
	t.Helper()
	took(t, []byte(b), version, api.Command{}, nil, e)
}

func TestP5_1_Need(t *testing.T) {
	for kind := -3; kind <= 300; kind++ {
		if need := command.Need(kind); need != needs[kind] {
			t.Errorf("Need(%d) = %d; want %d", kind, need, needs[kind])
		}
	}
	for _, kind := range []int{math.MinInt, math.MaxInt, 1<<32 + 1, -1 << 32} {
		if need := command.Need(kind); need != 0 {
			t.Errorf("Need(%d) = %d", kind, need)
		}
	}
	for kind, c := range good {
		if c.Kind != kind || command.Need(kind) == 0 {
			t.Errorf("%d: %+v", kind, c)
		}
	}
}

func TestP5_1_RowsOfChunks(t *testing.T) {
	for _, c := range []struct {
		l []int
		b string
	}{
		{[]int{1}, "\x01"},
		{[]int{64}, "\x40"},
		{[]int{1, 64}, "\x01\x40"},
		{[]int{3, 9}, "\x03\x09"},
		{[]int{63, 64}, "\x3f\x40"},
		{[]int{1, 2, 3, 4, 5, 6, 7, 8}, "\x01\x02\x03\x04\x05\x06\x07\x08"},
		{[]int{57, 58, 59, 60, 61, 62, 63, 64}, "9:;<=>?@"},
	} {
		if b, e := command.Chunks(c.l); string(b) != c.b || e != api.OK {
			t.Errorf("Chunks(%v) = % x, %d; want % x", c.l, b, e, c.b)
		}
		if l, e := command.Unchunk([]byte(c.b)); !slices.Equal(l, c.l) || e != api.OK {
			t.Errorf("Unchunk(% x) = %v, %d; want %v", c.b, l, e, c.l)
		}
	}
}

func TestP5_1_NoRowsOfChunks(t *testing.T) {
	for _, l := range [][]int{
		nil, {}, {0}, {-1}, {65}, {math.MinInt}, {math.MaxInt}, {1<<32 + 1}, {256 + 1},
		{1, 1}, {2, 1}, {0, 1}, {-1, 1}, {1, 65}, {1, 3, 2}, {1, 3, 3}, {64, 64}, {5, 0}, {5, -6},
		{1, 2, 3, 4, 5, 6, 7, 8, 9}, slices.Repeat([]int{1}, 9), make([]int, 1000),
	} {
		if b, e := command.Chunks(l); len(b) != 0 || e != api.ErrArg {
			t.Errorf("Chunks(%v) = % x, %d", l, b, e)
		}
	}
	for _, b := range []string{
		"", "\x00", "\x41", "\x01\x01", "\x02\x01", "\x00\x01", "\x01\x00", "\x01\x41", "\x01\x03\x02", "\x40\x40",
		"\x81", "\x81\x00", "\x01\x80", "\x01\x82\x00", "\x80", "\x80\x01", "\xc0\x00", "\x81\x01", "\xff\x01",
		"\x01\x02\x03\x04\x05\x06\x07\x08\x09", "\x01\x02\x03\x04\x05\x06\x07\x08\x80",
		"\xff\xff\xff\xff\xff\xff\xff\xff\xff\x01", "\x81\x80\x80\x80\x80\x80\x80\x80\x80\x01",
		"\x81\x80\x80\x80\x10", "\xff\xff\xff\xff\xff\xff\xff\xff\xff\xff", strings.Repeat("\x01", 20000),
	} {
		if l, e := command.Unchunk([]byte(b)); len(l) != 0 || e != api.ErrField {
			t.Errorf("Unchunk(% .20x) = %v, %d", b, l, e)
		}
	}
}

// TestP5_1_ShortRows holds both calls against P5.1's text, of all rows of up to three bytes.
func TestP5_1_ShortRows(t *testing.T) {
	letters := []int{0, 1, 2, 3, 63, 64, 65, 127, 128, 129, 192, 255}
	many := len(letters)
	for n := range many * many * many {
		row := []int{letters[n%many], letters[n/many%many], letters[n/many/many]}
		for size := range len(row) + 1 {
			l := row[:size:size]
			want, wantE := []byte(nil), api.ErrArg
			if plainRow(l) {
				for _, chunk := range l {
					want = append(want, varint.Put(uint64(chunk))...)
				}
				wantE = api.OK
			}
			if b, e := command.Chunks(l); !bytes.Equal(b, want) || e != wantE {
				t.Errorf("Chunks(%v) = % x, %d; want % x, %d", l, b, e, want, wantE)
			}
			unchunked(t, l)
		}
	}
}

// unchunked fails unless Unchunk tells the row of which the bytes are those, or that there is none: chunks have a byte each.
func unchunked(t *testing.T, l []int) {
	t.Helper()
	var b []byte
	for _, n := range l {
		b = append(b, byte(n))
	}
	want, wantE := l, api.OK
	if !plainRow(l) {
		want, wantE = nil, api.ErrField
	}
	if got, e := command.Unchunk(b); !slices.Equal(got, want) || e != wantE {
		t.Errorf("Unchunk(% x) = %v, %d; want %v, %d", b, got, e, want, wantE)
	}
}

func TestP5_2_CommandsThatMayBe(t *testing.T) {
	for kind, c := range good {
		for version := 1; version <= versions; version++ {
			want := api.OK
			if needs[kind] > version {
				want = api.ErrVersion
			}
			may(t, c, version, want)
		}
	}
	for _, c := range []api.Command{
		{Kind: api.Register, Client: 1},
		{Kind: api.Register, Client: 8},
		{Kind: api.Begin, Client: 1, Seq: 1, Set: 1},
		{Kind: api.Commit, Client: 8, Seq: million, Set: 8, Chunks: []int{57, 58, 59, 60, 61, 62, 63, 64}},
		{Kind: api.Abort, Client: 1, Seq: 1, Set: 1, Chunks: []int{}},
		{Kind: api.Keep, Client: 1, Seq: 1},
		{Kind: api.Bump, N: 3},
		{Kind: api.Tag, Client: 1, Seq: 1, ID: 1},
		{Kind: api.Tag, Client: 1, Seq: 1, ID: million, Text: "sixteen bytes..\x00"},
		{Kind: api.Tag, Client: 1, Seq: 1, ID: 1, Text: "\xff\x80"},
		{Kind: api.Quota, Client: 1, Seq: 1},
	} {
		may(t, c, 3, api.OK)
	}
}

func TestP5_2_NoVersionOrKind(t *testing.T) {
	for _, version := range []int{math.MinInt, -1, 0, 4, 5, math.MaxInt, 256 + 1, 1<<32 + 1} {
		for _, c := range good {
			may(t, c, version, api.ErrArg)
		}
		may(t, api.Command{}, version, api.ErrArg)
		may(t, api.Command{Kind: 13}, version, api.ErrArg)
	}
	for _, kind := range []int{math.MinInt, -1, 0, 13, 14, 99, 100, math.MaxInt, 256 + 8, 1<<32 + 8} {
		for version := 1; version <= versions; version++ {
			may(t, api.Command{Kind: kind, N: 2}, version, api.ErrArg)
		}
	}
}

func TestP5_2_AVersionThatIsTooLowIsToldAheadOfWrongFields(t *testing.T) {
	for kind, need := range needs {
		for version := 1; version <= versions; version++ {
			c := api.Command{Kind: kind, Client: -1, Seq: -1, Set: -1, ID: -1, N: -1, Chunks: []int{0}, Text: strings.Repeat("x", 17)}
			want := api.ErrArg
			if need > version {
				want = api.ErrVersion
			}
			may(t, c, version, want)
		}
	}
}

// edges are numbers at the ends of those that P5.2 names.
var edges = []int{math.MinInt, -1, 0, 1, 2, 3, 4, 7, 8, 9, 16, 17, 63, 64, 65, million - 1, million, million + 1, 1<<32 + 1, math.MaxInt}

// rowsOfAll are rows of chunks, and others; texts are of lengths at their bound.
var rowsOfAll = [][]int{nil, {}, {1}, {64}, {0}, {65}, {-1}, {1, 2, 3, 4, 5, 6, 7, 8}, {1, 2, 3, 4, 5, 6, 7, 8, 9}, {2, 2}, {2, 1}}

var texts = []string{"", "a", "\x00", strings.Repeat("b", 16), strings.Repeat("c", 17)}

// eachTurned calls do for a command of each kind, with one part and another one turned.
func eachTurned(do func(c api.Command)) {
	numbers := []func(c *api.Command) *int{
		func(c *api.Command) *int { return &c.Client },
		func(c *api.Command) *int { return &c.Seq },
		func(c *api.Command) *int { return &c.Set },
		func(c *api.Command) *int { return &c.ID },
		func(c *api.Command) *int { return &c.N },
	}
	for _, kind := range []int{math.MinInt, -1, 0, 1, 2, 3, 4, 5, 6, 7, 8, 9, 10, 11, 12, 13, 99, 100, 1<<32 + 8} {
		start := good[kind] // of noughts, if there is no such kind
		start.Kind = kind
		do(start)
		for at, part := range numbers {
			for _, n := range edges {
				turned := with(start, func(c *api.Command) { *part(c) = n })
				do(turned)
				for _, other := range numbers[at+1:] {
					for _, m := range []int{-1, 0, 1, 8, 9, million, million + 1} {
						do(with(turned, func(c *api.Command) { *other(c) = m }))
					}
				}
			}
		}
		for _, l := range rowsOfAll {
			for _, s := range texts {
				do(with(start, func(c *api.Command) { c.Chunks, c.Text = l, s }))
			}
		}
	}
}

func TestP5_2_EachPartOfEachKind(t *testing.T) {
	eachTurned(func(c api.Command) {
		for version := 0; version <= versions+1; version++ {
			may(t, c, version, plainMay(c, version))
		}
	})
}

func TestP5_2_ForeignCommands(t *testing.T) {
	full := api.Command{Client: million, Seq: million, Set: million, ID: million, N: million, Chunks: []int{1, 2, 3, 4, 5, 6, 7, 8}}
	for version := 1; version <= versions; version++ {
		for kind := 1; kind <= 99; kind++ {
			c := with(full, func(c *api.Command) { c.Kind = kind })
			b, e := command.Put(c, nil, version)
			isForeign := needs[kind] == 0 || needs[kind] > version
			if isForeign != (e == api.OK) {
				t.Errorf("Put(%+v, %d) = % x, %d", c, version, b, e)
			}
			if isForeign {
				took(t, b, version, c, nil, api.OK)
				took(t, []byte{8, byte(kind)}, version, api.Command{Kind: kind}, nil, api.OK)
			}
		}
	}
	// A Text is there from version 3 on.
	c := api.Command{Kind: 99, Text: "sixteen bytes..."}
	put(t, c, nil, 3, "\x08\x63\x42\x10sixteen bytes...", api.OK)
	put(t, c, nil, 2, "", api.ErrArg)
	put(t, c, nil, 1, "", api.ErrArg)
	c = api.Command{Kind: api.Tag, Client: 1, Seq: 1, ID: 1, Text: "a"}
	put(t, c, nil, 2, "", api.ErrVersion)
	c.Text = ""
	put(t, c, nil, 2, "\x08\x0b\x10\x01\x18\x01\x28\x01", api.OK)
	// One that is not foreign, as a part of it is not as it should be, is told of as May does.
	for _, kind := range []int{api.Hold, api.Quota, 13, 99, 100, 0, -1} {
		for _, bad := range []api.Command{
			{Kind: kind, Client: million + 1}, {Kind: kind, Seq: -1}, {Kind: kind, Set: million + 1}, {Kind: kind, ID: -1},
			{Kind: kind, N: math.MaxInt}, {Kind: kind, Chunks: []int{0}}, {Kind: kind, Chunks: []int{2, 1}}, {Kind: kind, Text: "a"},
		} {
			want := api.ErrArg
			if needs[kind] > 1 {
				want = api.ErrVersion
			}
			put(t, bad, nil, 1, "", want)
		}
	}
	put(t, api.Command{Kind: 13, Text: strings.Repeat("x", 17)}, nil, 3, "", api.ErrArg)
	put(t, api.Command{Kind: 100}, nil, 3, "", api.ErrArg)
}

func TestP5_3_Put(t *testing.T) {
	put(t, good[api.Bump], nil, 1, "\x08\x08\x30\x02", api.OK)
	put(t, good[api.Register], []api.Field{}, 1, "\x08\x01\x10\x03", api.OK)
	put(t, good[api.Commit], nil, 2, "\x08\x03\x10\x01\x18\x01\x20\x01\x3a\x03\x01\x05\x40", api.OK)
	put(t, good[api.Begin], nil, 3, "\x08\x02\x10\x08\x18\x80\x80\x40\x20\x08", api.OK)
	put(t, good[api.Tag], nil, 3, "\x08\x0b\x10\x05\x18\x01\x28\x03\x42\x06monday", api.OK)
	put(t, api.Command{Kind: api.Keep, Client: 1, Seq: 1}, nil, 1, "\x08\x06\x10\x01\x18\x01", api.OK)
	all := api.Command{Kind: 13, Client: 1, Seq: 2, Set: 3, ID: 4, N: 5, Chunks: []int{6}, Text: "7"}
	put(t, all, nil, 3, "\x08\x0d\x10\x01\x18\x02\x20\x03\x28\x04\x30\x05\x3a\x01\x06\x42\x017", api.OK)
}

func TestP5_3_PutNoVersion(t *testing.T) {
	for _, version := range []int{math.MinInt, -1, 0, 4, math.MaxInt, 256 + 1, 1<<32 + 1} {
		for _, c := range good {
			put(t, c, nil, version, "", api.ErrArg)
		}
		// Told ahead of the rest, and of a command that would be foreign.
		put(t, api.Command{Kind: 50}, nil, version, "", api.ErrArg)
		put(t, good[api.Bump], []api.Field{number(1, 1)}, version, "", api.ErrArg)
	}
}

func TestP5_3_PutRest(t *testing.T) {
	bump := good[api.Bump]
	head := "\x08\x08\x30\x02"
	put(t, bump, []api.Field{number(8, 0)}, 1, head+"\x40\x00", api.OK)
	put(t, bump, []api.Field{text(8, "")}, 2, head+"\x42\x00", api.OK)
	put(t, bump, []api.Field{text(8, "a"), text(8, "a"), number(1000, 1)}, 2, head+"\x42\x01a\x42\x01a\xc0\x3e\x01", api.OK)
	put(t, bump, []api.Field{number(9, 4)}, 3, head+"\x48\x04", api.OK)
	put(t, api.Command{Kind: 77}, []api.Field{number(9, 4)}, 3, "\x08\x4d\x48\x04", api.OK)
	for version := 1; version <= versions; version++ {
		for num := -1; num <= 10; num++ {
			for _, f := range []api.Field{number(num, 1), number(num, 0), text(num, ""), text(num, "\x01"), {Num: num, Wire: 1}} {
				_, e := command.Put(bump, []api.Field{f}, version)
				want := api.OK
				switch {
				case num <= forms.Top(api.FormCommand, version):
					want = api.ErrField
				case f.Wire == 1:
					want = api.ErrArg
				}
				if e != want {
					t.Errorf("Put of a Bump and %v at %d: %d; want %d", f, version, e, want)
				}
				// It need not be the first one.
				_, e = command.Put(bump, []api.Field{number(500, 1), f}, version)
				if want == api.OK {
					want = api.ErrOrder
				}
				if e != want {
					t.Errorf("Put of a Bump, a field 500, and %v at %d: %d; want %d", f, version, e, want)
				}
			}
		}
		put(t, bump, []api.Field{number(math.MinInt, 1)}, version, "", api.ErrField)
		// tlv.Put's errors.
		put(t, bump, []api.Field{number(1001, 1)}, version, "", api.ErrArg)
		put(t, bump, []api.Field{{Num: 9, Wire: api.Bytes, N: 1}}, version, "", api.ErrArg)
		put(t, bump, []api.Field{number(9, 1), number(9, 1)}, version, "", api.ErrOrder)
		put(t, bump, []api.Field{number(10, 1), number(9, 1)}, version, "", api.ErrOrder)
		put(t, bump, []api.Field{text(9, strings.Repeat("x", 16385))}, version, "", api.ErrBig)
		// A row is 2^14 bytes at most: the Bump's 4, a tag's 1, 2 of the length, and these.
		put(t, bump, []api.Field{text(9, strings.Repeat("x", 16378))}, version, "", api.ErrBig)
		put(t, bump, []api.Field{text(9, strings.Repeat("x", 16377))}, version, head+"\x4a\xf9\x7f"+strings.Repeat("x", 16377), api.OK)
		// The command is told of ahead of the rest, and a number up to Top ahead of other faults.
		put(t, api.Command{Kind: api.Bump}, []api.Field{number(1, 1)}, version, "", api.ErrArg)
		put(t, bump, []api.Field{number(1001, 1), number(1, 1)}, version, "", api.ErrField)
		put(t, bump, []api.Field{text(9, strings.Repeat("x", 16385)), number(0, 1)}, version, "", api.ErrField)
	}
	put(t, good[api.Hold], []api.Field{number(1, 1)}, 2, "", api.ErrField)
	put(t, with(good[api.Hold], func(c *api.Command) { c.N = -1 }), []api.Field{number(1, 1)}, 1, "", api.ErrVersion)
}

// TestP5_3_PutOfEachPartOfEachKind holds Put, and Take of what it told, against P5.3's text.
func TestP5_3_PutOfEachPartOfEachKind(t *testing.T) {
	eachTurned(func(c api.Command) {
		for version := 1; version <= versions; version++ {
			b, e := plainPut(c, nil, version)
			put(t, c, nil, version, string(b), e)
		}
	})
}

func TestP5_3_TakeErrors(t *testing.T) {
	bump := "\x08\x08\x30\x02"
	for _, version := range []int{math.MinInt, -1, 0, 4, math.MaxInt, 256 + 1, 1<<32 + 1} {
		refused(t, bump, version, api.ErrArg)
		refused(t, "\x08", version, api.ErrArg)
		refused(t, "", version, api.ErrArg)
	}
	for version := 1; version <= versions; version++ {
		// tlv.Take's.
		refused(t, bump+strings.Repeat("\x4a\x00", 8191), version, api.ErrBig)
		refused(t, bump+"\x4a\x81\x80\x01", version, api.ErrBig)
		refused(t, "\x08", version, api.ErrShort)
		refused(t, bump+"\x4a\x02a", version, api.ErrShort)
		refused(t, "\x08\x88\x00", version, api.ErrCorrupt)
		refused(t, "\x30\x02\x08\x08", version, api.ErrOrder)
		refused(t, "\x08\x08\x08\x08", version, api.ErrOrder)
		refused(t, "\x09\x08", version, api.ErrField)
		// The form's: told behind the row's.
		refused(t, "", version, api.ErrField)
		refused(t, "\x30\x02", version, api.ErrField)
		refused(t, "\x0a\x01\x08", version, api.ErrField)
		refused(t, "\x08\x00", version, api.ErrField)
		refused(t, "\x08\x08\x10\x00\x30\x02", version, api.ErrField)
		refused(t, bump+"\x3a\x00", version, api.ErrField)
		refused(t, "\x08\x03\x10\x01\x18\x01\x20\x01\x3a\x01\x05\x3a\x01\x06", version, api.ErrField)
		refused(t, "\x10\x00\x08\x08", version, api.ErrOrder)
		// What is no command.
		refused(t, "\x08\x08", version, api.ErrField)
		refused(t, "\x08\x08\x30\x01", version, api.ErrField)
		refused(t, "\x08\x08\x30\x04", version, api.ErrField)
		refused(t, "\x08\x08\x10\x01\x30\x02", version, api.ErrField)
		refused(t, "\x08\x64", version, api.ErrField)
		refused(t, "\x08\x01\x10\x09", version, api.ErrField)
		refused(t, "\x08\x63\x10\x81\x80\x40", version, api.ErrField)
		// A row of chunks that is none: of a command that should have one, that may, and that may not.
		for _, chunks := range []string{"\x00", "\x41", "\x02\x01", "\x01\x01", "\x81\x00", "\x81", "\x01\x02\x03\x04\x05\x06\x07\x08\x09"} {
			field := "\x3a" + string(rune(len(chunks))) + chunks
			refused(t, "\x08\x03\x10\x01\x18\x01\x20\x01"+field, version, api.ErrField)
			refused(t, "\x08\x63"+field, version, api.ErrField)
			refused(t, bump+field, version, api.ErrField)
		}
		refused(t, "\x08\x03\x10\x01\x18\x01\x20\x01", version, api.ErrField)
		refused(t, bump+"\x3a\x01\x01", version, api.ErrField)
	}
	refused(t, "\x08\x0b\x10\x01\x18\x01\x28\x01\x42\x11"+strings.Repeat("x", 17), 3, api.ErrField)
	refused(t, "\x08\x63\x42\x11"+strings.Repeat("x", 17), 3, api.ErrField)
	refused(t, bump+"\x42\x01a", 3, api.ErrField)
	refused(t, bump+"\x40\x01", 3, api.ErrField)
	// Of a version that does not know a Text any bytes may stand there.
	took(t, []byte(bump+"\x42\x11"+strings.Repeat("x", 17)), 2, good[api.Bump], []api.Field{text(8, strings.Repeat("x", 17))}, api.OK)
	took(t, []byte(bump+"\x40\x00"), 1, good[api.Bump], []api.Field{number(8, 0)}, api.OK)
	took(t, []byte(bump+"\x48\x00\x52\x00\x52\x01a"), 3, good[api.Bump], []api.Field{number(9, 0), text(10, ""), text(10, "a")}, api.OK)
}

// Numbers beyond an int are none of a command's, though an int of as many bits may be.
func TestP5_3_TakeOfNumbersBeyondAnInt(t *testing.T) {
	for _, n := range []uint64{1 << 63, 1<<63 + 8, 1<<64 - 1, 1<<64 - 8, 1<<32 + 8, 256 + 8, 1<<63 - 1} {
		for version := 1; version <= versions; version++ {
			refused(t, "\x08"+string(varint.Put(n)), version, api.ErrField)
			for num := 2; num <= 6; num++ {
				b, _ := tlv.Put([]api.Field{number(1, 50), number(num, n)})
				want := api.ErrField
				if n <= million {
					want = api.OK
				}
				if c, _, e := command.Take(b, version); e != want {
					t.Errorf("Take(% x, %d) = %+v, %d; want %d", b, version, c, e, want)
				}
			}
			b, _ := tlv.Put([]api.Field{number(1, 50), text(7, string(varint.Put(n)))})
			refused(t, string(b), version, api.ErrField)
		}
	}
}

func TestP5_3_Project(t *testing.T) {
	odd := []api.Command{
		{},
		{Kind: 999, Client: -1, Seq: -2, Set: -3, ID: -4, N: -5, Chunks: []int{9, 9, 0}, Text: strings.Repeat("x", 99)},
		{Chunks: []int{}, Text: "a"},
	}
	for _, c := range good {
		odd = append(odd, c)
	}
	for _, c := range odd {
		for _, version := range []int{math.MinInt, -1, 0, 1, 2, 3, 4, 100, math.MaxInt} {
			want := c
			if version < 3 {
				want.Text = ""
			}
			if got := command.Project(c, version); !same(got, want) {
				t.Errorf("Project(%+v, %d) = %+v", c, version, got)
			}
		}
	}
}

// holds fails unless Take tells of the bytes, at each version, what P5.3 says.
func holds(t *testing.T, b []byte) {
	t.Helper()
	for version := 1; version <= versions; version++ {
		l, e := tlv.Take(b)
		if e == api.OK {
			e = forms.Check(api.FormCommand, version, l)
		}
		if e != api.OK {
			refused(t, string(b), version, e)
			continue
		}
		c, rest, e := command.Take(b, version)
		if e == api.OK {
			again, e := plainPut(c, rest, version)
			if e != api.OK || !bytes.Equal(again, b) {
				t.Errorf("Take(% x, %d) = %+v, %v, which is put as % x, %d", b, version, c, rest, again, e)
			}
			lesser(t, b, version)
			continue
		}
		if e != api.ErrField {
			t.Errorf("Take(% x, %d) = %d", b, version, e)
		}
		refused(t, string(b), version, api.ErrField)
		if want, wantRest, may := plainTake(l, version); may {
			t.Errorf("Take(% x, %d) refused %+v, %v", b, version, want, wantRest)
		}
	}
}

// plainTake tells the command of a row of fields that forms.Check took, if there is one that is put so.
func plainTake(l []api.Field, version int) (c api.Command, rest []api.Field, may bool) {
	numbers := []*int{nil, &c.Kind, &c.Client, &c.Seq, &c.Set, &c.ID, &c.N}
	for _, f := range l {
		switch {
		case f.Num > forms.Top(api.FormCommand, version):
			rest = append(rest, f)
		case f.Num == 8:
			c.Text = string(f.B)
		case f.Num == 7:
			for _, n := range f.B {
				c.Chunks = append(c.Chunks, int(n))
			}
			if !plainRow(c.Chunks) {
				return api.Command{}, nil, false
			}
		case f.N > math.MaxInt:
			return api.Command{}, nil, false
		default:
			*numbers[f.Num] = int(f.N)
		}
	}
	_, e := plainPut(c, rest, version)
	return c, rest, e == api.OK
}

// lesser fails unless each version up to one that takes the bytes tells its projection, and puts the same bytes back.
func lesser(t *testing.T, b []byte, version int) {
	t.Helper()
	whole, _, _ := command.Take(b, version)
	for v := 1; v <= version; v++ {
		c, rest, e := command.Take(b, v)
		if e != api.OK || !same(c, command.Project(whole, v)) {
			t.Errorf("Take(% x, %d) = %+v, %v, %d; at %d it is %+v", b, v, c, rest, e, version, whole)
		}
		if again, e := command.Put(c, rest, v); e != api.OK || !bytes.Equal(again, b) {
			t.Errorf("% x, taken at %d, was put back as % x, %d", b, v, again, e)
		}
	}
}

func TestP5_4_WhatWasPutIsTakenAtEachLesserVersion(t *testing.T) {
	rests := [][]api.Field{
		nil,
		{number(9, 0)},
		{text(9, "a"), text(9, "a"), number(10, 5), text(1000, "")},
	}
	for version := 1; version <= versions; version++ {
		for kind := 1; kind <= 99; kind++ {
			c := with(good[kind], func(c *api.Command) { c.Kind = kind })
			if good[kind].Kind == 0 && version == versions {
				c = api.Command{Kind: kind, Client: 9, Seq: 1, Set: million, ID: 2, N: 3, Chunks: []int{4, 5}, Text: "six"}
			}
			for _, rest := range rests {
				b, e := command.Put(c, rest, version)
				if kind == api.Tag && version < versions {
					// Without its Text, it is a foreign one there.
					b, e = command.Put(command.Project(c, version), rest, version)
				}
				if e != api.OK {
					t.Fatalf("Put(%+v, %v, %d): %d", c, rest, version, e)
				}
				lesser(t, b, version)
			}
		}
	}
}

func TestP5_4_AnOlderBinaryPutsATextBack(t *testing.T) {
	b := []byte("\x08\x0b\x10\x05\x18\x01\x28\x03\x42\x06monday\x48\x07")
	seen := api.Command{Kind: api.Tag, Client: 5, Seq: 1, ID: 3}
	for version := 1; version < versions; version++ {
		took(t, b, version, seen, []api.Field{text(8, "monday"), number(9, 7)}, api.OK)
		put(t, seen, []api.Field{text(8, "monday"), number(9, 7)}, version, string(b), api.OK)
	}
	took(t, b, 3, good[api.Tag], []api.Field{number(9, 7)}, api.OK)
}

func TestP5_4_AnyBytes(t *testing.T) {
	letters := []byte("\x00\x01\x02\x08\x0d\x30\x3a\x42\x4a\x81")
	many := len(letters)
	row := make([]byte, 5)
	for n := range many * many * many * many * many {
		for i := range row {
			row[i] = letters[n%many]
			n /= many
		}
		holds(t, row)
		if row[4] == letters[0] {
			holds(t, row[:4])
		}
	}
	for _, c := range good {
		b, _ := command.Put(c, []api.Field{number(9, 1), text(10, "a")}, 3)
		for at := range b {
			for turn := range 256 {
				turned := bytes.Clone(b)
				turned[at] = byte(turn)
				holds(t, turned)
			}
			holds(t, b[:at])
			holds(t, slices.Concat(b[:at], b[at+1:]))
			holds(t, slices.Concat(b[:at], b[at:at+1], b[at:]))
		}
	}
}

func FuzzP5_4(f *testing.F) {
	f.Add([]byte("\x08\x08\x30\x02"))
	f.Add([]byte("\x08\x0b\x10\x01\x18\xac\x02\x28\x02\x42\x02ab"))
	f.Add([]byte("\x08\x03\x10\x08\x18\x01\x20\x03\x3a\x02\x01\x40\x48\x04"))
	f.Add([]byte("\x08\x63\x30\x80\x80\x40\x3a\x01\x01\x42\x00"))
	f.Fuzz(func(t *testing.T, b []byte) { holds(t, b) })
}

func TestR7_WhatIsHandedInIsNotChanged(t *testing.T) {
	chunks := []int{1, 5, 64, 99, 99}
	c := api.Command{Kind: api.Commit, Client: 1, Seq: 1, Set: 1, Chunks: chunks[:3]}
	room := []api.Field{text(9, "ab"), number(10, 1), number(77, 77)}
	before := fmt.Sprint(chunks, room)
	b, _ := command.Put(c, room[:2], 3)
	command.May(c, 3)
	command.Chunks(c.Chunks)
	_ = append(command.Project(c, 3).Chunks, 7)
	wide := append(slices.Clone(b), "room"...)
	command.Take(wide[:len(b)], 3)
	command.Unchunk(wide[:len(b)])
	if after := fmt.Sprint(chunks, room); after != before {
		t.Errorf("%s became %s", before, after)
	}
	if string(wide) != string(b)+"room" {
		t.Errorf("% x became % x", b, wide)
	}
}

func TestR7_WhatIsAnsweredIsTheCallersOwn(t *testing.T) {
	c := api.Command{Kind: api.Commit, Client: 1, Seq: 1, Set: 1, Chunks: []int{1, 5, 64}}
	seen := command.Project(c, 3)
	seen.Chunks[0] = 3
	if c.Chunks[0] != 1 {
		t.Error("a projection shares its chunks")
	}
	rest := []api.Field{text(9, "ab")}
	b, _ := command.Put(c, rest, 3)
	want := bytes.Clone(b)
	c.Chunks[0], rest[0].B[0] = 2, 'x'
	if !bytes.Equal(b, want) {
		t.Errorf("% x became % x", want, b)
	}
	took(t, b, 3, with(c, func(c *api.Command) { c.Chunks[0] = 1 }), []api.Field{text(9, "ab")}, api.OK)
	first, _, _ := command.Take(b, 3)
	first.Chunks[0] = 2
	again, _, _ := command.Take(b, 3)
	if again.Chunks[0] != 1 {
		t.Error("commands that were taken share their chunks")
	}
	row := []byte{1, 2}
	l, _ := command.Unchunk(row)
	row[0] = 2
	if !slices.Equal(l, []int{1, 2}) {
		t.Errorf("behind a change of the bytes: %v", l)
	}
}

// What a call answers hangs on its own row, not on the chunk with which an earlier one ended.
func TestR6_CallsDoNotHangOnEachOther(t *testing.T) {
	for range 3 {
		for _, l := range [][]int{{64}, {1}, {1, 64}} {
			if b, e := command.Chunks(l); len(b) != len(l) || e != api.OK {
				t.Errorf("Chunks(%v) = % x, %d", l, b, e)
			}
			unchunked(t, l)
		}
		may(t, good[api.Commit], 1, api.OK)
		put(t, good[api.Bump], nil, 1, "\x08\x08\x30\x02", api.OK)
	}
}
