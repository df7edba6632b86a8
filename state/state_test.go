package state_test

import (
	"fmt"
	"math"
	"slices"
	"strings"
	"testing"

	"coracle/api"
	"coracle/state"
)

// edges are numbers at, and beside, each bound of the chapter, and some of which the last bits only are within one.
var edges = []int{math.MinInt, math.MinInt + 1, -1 << 32, -1, 0, 1, 2, 3, 4, 7, 8, 9, 15, 16, 17, 63, 64, 65, 98, 99, 100, 255, 256, 257,
	1<<20 - 1, 1 << 20, 1<<20 + 1, 1 << 32, 1<<32 + 1, math.MaxInt - 1, math.MaxInt}

var versions = []int{math.MinInt, -1, 0, 1, 2, 3, 4, 257, 1<<32 + 1, math.MaxInt}

// full is a catalogue that may be at version 3, with something in each part.
func full() api.State {
	return api.State{
		Version: 3, Next: 9, Keep: 2, Quota: 40,
		Sess: []api.Sess{
			{Client: 1},
			{Client: 4, Seq: 7, Last: api.Reply{Code: api.ErrBusy, N: 3}},
			{Client: 8, Seq: 1 << 20, Last: api.Reply{Code: 99, N: 1 << 20}},
		},
		Opens: []api.Open{{Set: 1, Client: 8}, {Set: 3, Client: 1}, {Set: 8, Client: 1}},
		Snaps: []api.Snap{
			{ID: 1, Set: 2, Chunks: []int{1}},
			{ID: 3, Set: 8, Chunks: []int{1, 2, 3, 4, 5, 6, 7, 64}, Held: true, Tag: "sixteen bytes, !"},
			{ID: 8, Set: 2, Chunks: []int{9, 64}, Tag: "\x00\xff"},
		},
	}
}

// plain is one that may be at each version.
func plain() api.State {
	s := full()
	s.Version, s.Quota = 1, 0
	for i := range s.Snaps {
		s.Snaps[i].Held, s.Snaps[i].Tag = false, ""
	}
	return s
}

// snaps are n snapshots of the IDs 1 up.
func snaps(n int) []api.Snap {
	var l []api.Snap
	for i := range n {
		l = append(l, api.Snap{ID: i + 1, Set: i%8 + 1, Chunks: []int{i%64 + 1}})
	}
	return l
}

// plainMay is P7.1's text, sentence by sentence.
func plainMay(s api.State, version int) api.Errno {
	if version != 1 && version != 2 && version != 3 {
		return api.ErrArg
	}
	bad := func(n, least, most int) bool { return n < least || n > most }
	wrong := bad(s.Version, 1, 3) || bad(s.Next, 1, 1048576) || bad(s.Keep, 0, 8) || bad(s.Quota, 0, 64) || version < 3 && s.Quota != 0
	for i, x := range s.Sess {
		wrong = wrong || i > 0 && x.Client <= s.Sess[i-1].Client || bad(x.Client, 1, 8) || bad(x.Seq, 0, 1048576) || bad(int(x.Last.Code), 0, 99) || bad(x.Last.N, 0, 1048576)
	}
	for i, x := range s.Opens {
		wrong = wrong || i > 0 && x.Set <= s.Opens[i-1].Set || bad(x.Set, 1, 8) || bad(x.Client, 1, 8)
	}
	wrong = wrong || len(s.Snaps) > 16
	for i, x := range s.Snaps {
		wrong = wrong || i > 0 && x.ID <= s.Snaps[i-1].ID || x.ID < 1 || x.ID >= s.Next || bad(x.Set, 1, 8) || bad(len(x.Chunks), 1, 8)
		for k, n := range x.Chunks {
			wrong = wrong || bad(n, 1, 64) || k > 0 && n <= x.Chunks[k-1]
		}
		wrong = wrong || x.Held && version == 1 || bad(len(x.Tag), 0, 16) || x.Tag != "" && version < 3
	}
	if wrong {
		return api.ErrField
	}
	return api.OK
}

// spelt is all of a catalogue as a text, in which a list without anything is as good as none.
func spelt(s api.State) string {
	text := fmt.Sprint(s.Version, s.Next, s.Keep, s.Quota, s.Sess, s.Opens)
	for _, x := range s.Snaps {
		text += fmt.Sprintf(" {%d %d %v %t %q}", x.ID, x.Set, x.Chunks, x.Held, x.Tag)
	}
	return text
}

// numbers are the places of all numbers of a catalogue, in its lists, too.
func numbers(s *api.State) []*int {
	l := []*int{&s.Version, &s.Next, &s.Keep, &s.Quota}
	for i := range s.Sess {
		l = append(l, &s.Sess[i].Client, &s.Sess[i].Seq, (*int)(&s.Sess[i].Last.Code), &s.Sess[i].Last.N)
	}
	for i := range s.Opens {
		l = append(l, &s.Opens[i].Set, &s.Opens[i].Client)
	}
	for i := range s.Snaps {
		l = append(l, &s.Snaps[i].ID, &s.Snaps[i].Set)
		for k := range s.Snaps[i].Chunks {
			l = append(l, &s.Snaps[i].Chunks[k])
		}
	}
	return l
}

// mayHolds fails unless May tells what the chapter says, at each version, and P7.4 holds.
func mayHolds(t *testing.T, s api.State) {
	t.Helper()
	for _, version := range versions {
		if e, want := state.May(s, version), plainMay(s, version); e != want {
			t.Errorf("May(%+v, %d) = %d; want %d", s, version, e, want)
		}
	}
	for version := 1; version < 3; version++ {
		if state.May(s, version) == api.OK && state.May(s, version+1) != api.OK {
			t.Errorf("%+v may be at %d, and not at %d", s, version, version+1)
		}
	}
}

func TestP7_1_Fresh(t *testing.T) {
	s := state.Fresh()
	if spelt(s) != spelt(api.State{Version: 1, Next: 1}) {
		t.Errorf("Fresh = %+v", s)
	}
	for version := 1; version <= 3; version++ {
		if e := state.May(s, version); e != api.OK {
			t.Errorf("May(Fresh, %d) = %d", version, e)
		}
	}
}

func TestP7_1_May(t *testing.T) {
	for version, want := range []api.Errno{api.ErrArg, api.ErrField, api.ErrField, api.OK, api.ErrArg} {
		if e := state.May(full(), version); e != want {
			t.Errorf("May(full, %d) = %d; want %d", version, e, want)
		}
	}
	for version, want := range []api.Errno{api.ErrArg, api.OK, api.OK, api.OK, api.ErrArg} {
		for own := 1; own <= 3; own++ { // at whatever Version it is itself
			s := plain()
			s.Version = own
			if e := state.May(s, version); e != want {
				t.Errorf("May(plain of %d, %d) = %d; want %d", own, version, e, want)
			}
		}
	}
	for _, version := range []int{0, -1, 4, math.MaxInt, math.MinInt, 1<<32 + 1} { // ErrArg first
		if e := state.May(api.State{}, version); e != api.ErrArg {
			t.Errorf("May of noughts at %d = %d", version, e)
		}
	}
	if e := state.May(api.State{}, 1); e != api.ErrField {
		t.Errorf("May of noughts = %d", e)
	}
}

// TestP7_1_OneChange changes one part of a catalogue that may be, and tells by hand what comes of it.
func TestP7_1_OneChange(t *testing.T) {
	for _, c := range []struct {
		name   string
		change func(s *api.State)
		want   [4]api.Errno // by versions
	}{
		{"nothing", func(s *api.State) {}, [4]api.Errno{1, 0, 0, 0}},
		{"Version 0", func(s *api.State) { s.Version = 0 }, [4]api.Errno{1, 6, 6, 6}},
		{"Version 4", func(s *api.State) { s.Version = 4 }, [4]api.Errno{1, 6, 6, 6}},
		{"Next 0", func(s *api.State) { s.Next, s.Snaps = 0, nil }, [4]api.Errno{1, 6, 6, 6}},
		{"Next 1", func(s *api.State) { s.Next, s.Snaps = 1, nil }, [4]api.Errno{1, 0, 0, 0}},
		{"Next 2^20", func(s *api.State) { s.Next = 1 << 20 }, [4]api.Errno{1, 0, 0, 0}},
		{"Next 2^20 + 1", func(s *api.State) { s.Next = 1<<20 + 1 }, [4]api.Errno{1, 6, 6, 6}},
		{"Next as the last ID", func(s *api.State) { s.Next = 8 }, [4]api.Errno{1, 6, 6, 6}},
		{"the last ID just below Next", func(s *api.State) { s.Next, s.Snaps[2].ID = 1<<20, 1<<20-1 }, [4]api.Errno{1, 0, 0, 0}},
		{"Keep 0", func(s *api.State) { s.Keep = 0 }, [4]api.Errno{1, 0, 0, 0}},
		{"Keep 8", func(s *api.State) { s.Keep = 8 }, [4]api.Errno{1, 0, 0, 0}},
		{"Keep 9", func(s *api.State) { s.Keep = 9 }, [4]api.Errno{1, 6, 6, 6}},
		{"Keep -1", func(s *api.State) { s.Keep = -1 }, [4]api.Errno{1, 6, 6, 6}},
		{"Quota 1", func(s *api.State) { s.Quota = 1 }, [4]api.Errno{1, 6, 6, 0}},
		{"Quota 64", func(s *api.State) { s.Quota = 64 }, [4]api.Errno{1, 6, 6, 0}},
		{"Quota 65", func(s *api.State) { s.Quota = 65 }, [4]api.Errno{1, 6, 6, 6}},
		{"Quota -1", func(s *api.State) { s.Quota = -1 }, [4]api.Errno{1, 6, 6, 6}},
		{"client 0", func(s *api.State) { s.Sess[0].Client = 0 }, [4]api.Errno{1, 6, 6, 6}},
		{"client 9", func(s *api.State) { s.Sess[2].Client = 9 }, [4]api.Errno{1, 6, 6, 6}},
		{"a client twice", func(s *api.State) { s.Sess[1].Client = 1 }, [4]api.Errno{1, 6, 6, 6}},
		{"clients that fall", func(s *api.State) { s.Sess[0], s.Sess[1] = s.Sess[1], s.Sess[0] }, [4]api.Errno{1, 6, 6, 6}},
		{"Seq -1", func(s *api.State) { s.Sess[0].Seq = -1 }, [4]api.Errno{1, 6, 6, 6}},
		{"Seq 2^20 + 1", func(s *api.State) { s.Sess[2].Seq++ }, [4]api.Errno{1, 6, 6, 6}},
		{"Code -1", func(s *api.State) { s.Sess[1].Last.Code = -1 }, [4]api.Errno{1, 6, 6, 6}},
		{"Code 100", func(s *api.State) { s.Sess[1].Last.Code = 100 }, [4]api.Errno{1, 6, 6, 6}},
		{"N -1", func(s *api.State) { s.Sess[1].Last.N = -1 }, [4]api.Errno{1, 6, 6, 6}},
		{"N 2^20 + 1", func(s *api.State) { s.Sess[2].Last.N++ }, [4]api.Errno{1, 6, 6, 6}},
		{"set 0 open", func(s *api.State) { s.Opens[0].Set = 0 }, [4]api.Errno{1, 6, 6, 6}},
		{"set 9 open", func(s *api.State) { s.Opens[2].Set = 9 }, [4]api.Errno{1, 6, 6, 6}},
		{"a set open twice", func(s *api.State) { s.Opens[1].Set = 8 }, [4]api.Errno{1, 6, 6, 6}},
		{"open sets that fall", func(s *api.State) { s.Opens[0].Set = 4 }, [4]api.Errno{1, 6, 6, 6}},
		{"open by client 0", func(s *api.State) { s.Opens[2].Client = 0 }, [4]api.Errno{1, 6, 6, 6}},
		{"open by client 9", func(s *api.State) { s.Opens[0].Client = 9 }, [4]api.Errno{1, 6, 6, 6}},
		{"open by a client that is not there", func(s *api.State) { s.Opens[0].Client = 5 }, [4]api.Errno{1, 0, 0, 0}},
		{"ID 0", func(s *api.State) { s.Snaps[0].ID = 0 }, [4]api.Errno{1, 6, 6, 6}},
		{"an ID twice", func(s *api.State) { s.Snaps[0].ID = 3 }, [4]api.Errno{1, 6, 6, 6}},
		{"IDs that fall", func(s *api.State) { s.Snaps[1].ID, s.Snaps[2].ID = 8, 3 }, [4]api.Errno{1, 6, 6, 6}},
		{"set 0", func(s *api.State) { s.Snaps[1].Set = 0 }, [4]api.Errno{1, 6, 6, 6}},
		{"set 9", func(s *api.State) { s.Snaps[2].Set = 9 }, [4]api.Errno{1, 6, 6, 6}},
		{"no chunks", func(s *api.State) { s.Snaps[2].Chunks = nil }, [4]api.Errno{1, 6, 6, 6}},
		{"nine chunks", func(s *api.State) { s.Snaps[0].Chunks = []int{1, 2, 3, 4, 5, 6, 7, 8, 9} }, [4]api.Errno{1, 6, 6, 6}},
		{"chunk 0", func(s *api.State) { s.Snaps[2].Chunks = []int{0, 5} }, [4]api.Errno{1, 6, 6, 6}},
		{"chunk 65", func(s *api.State) { s.Snaps[2].Chunks = []int{5, 65} }, [4]api.Errno{1, 6, 6, 6}},
		{"a chunk twice", func(s *api.State) { s.Snaps[2].Chunks = []int{5, 5} }, [4]api.Errno{1, 6, 6, 6}},
		{"chunks that fall", func(s *api.State) { s.Snaps[2].Chunks = []int{6, 5} }, [4]api.Errno{1, 6, 6, 6}},
		{"held", func(s *api.State) { s.Snaps[0].Held = true }, [4]api.Errno{1, 6, 0, 0}},
		{"a tag", func(s *api.State) { s.Snaps[2].Tag = "a" }, [4]api.Errno{1, 6, 6, 0}},
		{"16 bytes of tag", func(s *api.State) { s.Snaps[2].Tag = strings.Repeat("é", 8) }, [4]api.Errno{1, 6, 6, 0}},
		{"17 bytes of tag", func(s *api.State) { s.Snaps[2].Tag = strings.Repeat("é", 8) + "!" }, [4]api.Errno{1, 6, 6, 6}},
		{"9 runes of tag", func(s *api.State) { s.Snaps[0].Tag = strings.Repeat("é", 9) }, [4]api.Errno{1, 6, 6, 6}},
		{"8 clients, 8 sets", func(s *api.State) {
			s.Sess, s.Opens = nil, nil
			for n := 1; n <= 8; n++ {
				s.Sess, s.Opens = append(s.Sess, api.Sess{Client: n}), append(s.Opens, api.Open{Set: n, Client: 9 - n})
			}
		}, [4]api.Errno{1, 0, 0, 0}},
		{"no snapshots", func(s *api.State) { s.Snaps = []api.Snap{} }, [4]api.Errno{1, 0, 0, 0}},
		{"16 snapshots", func(s *api.State) { s.Next, s.Snaps = 17, snaps(16) }, [4]api.Errno{1, 0, 0, 0}},
		{"17 snapshots", func(s *api.State) { s.Next, s.Snaps = 18, snaps(17) }, [4]api.Errno{1, 6, 6, 6}},
	} {
		s := plain()
		c.change(&s)
		for version, want := range c.want {
			if e := state.May(s, version); e != want {
				t.Errorf("%s: May at %d = %d; want %d", c.name, version, e, want)
			}
		}
		mayHolds(t, s)
	}
}

// TestP7_1_EachNumber makes each number of a catalogue each edge.
func TestP7_1_EachNumber(t *testing.T) {
	for _, make := range []func() api.State{state.Fresh, plain, full} {
		s := make()
		for at := range numbers(&s) {
			for _, n := range edges {
				s := make()
				*numbers(&s)[at] = n
				mayHolds(t, s)
			}
		}
	}
}

// TestP7_1_TwoNumbers makes two numbers of a catalogue small ones, so that each stands ahead of, as, and behind its neighbours.
func TestP7_1_TwoNumbers(t *testing.T) {
	s := plain()
	n := len(numbers(&s))
	for i := range n {
		for k := range i {
			for a := range 11 {
				for b := range 11 {
					s := plain()
					*numbers(&s)[i], *numbers(&s)[k] = a, b
					mayHolds(t, s)
				}
			}
		}
	}
}

func TestP7_1_Many(t *testing.T) {
	s := plain()
	for range 100000 {
		s.Sess = append(s.Sess, api.Sess{Client: 8})
		s.Opens = append(s.Opens, api.Open{Set: 8, Client: 1})
		s.Snaps = append(s.Snaps, api.Snap{ID: 8, Set: 1, Chunks: []int{1}})
	}
	if e := state.May(s, 3); e != api.ErrField {
		t.Errorf("May = %d", e)
	}
	if !state.Same(s, state.Copy(s)) || state.Client(s, 8) != 2 || state.Opened(s, 8) != 2 || state.Snap(s, 8) != 2 || state.Kept(s, 3) || !state.Kept(s, 100002) {
		t.Error("many things")
	}
}

// changes are catalogues that differ from s in one part each.
func changes(s api.State) []api.State {
	var l []api.State
	change := func(how func(c *api.State)) {
		c := deep(s)
		how(&c)
		l = append(l, c)
	}
	for at := range numbers(&s) {
		for _, by := range []int{1, -1, 1 << 32, math.MinInt} {
			change(func(c *api.State) { *numbers(c)[at] += by })
		}
	}
	for i := range s.Snaps {
		change(func(c *api.State) { c.Snaps[i].Held = !c.Snaps[i].Held })
		change(func(c *api.State) { c.Snaps[i].Tag += "\x00" })
		change(func(c *api.State) { c.Snaps[i].Tag = "X" + c.Snaps[i].Tag })
		change(func(c *api.State) { c.Snaps[i].Chunks = append(c.Snaps[i].Chunks, 64) })
		change(func(c *api.State) { c.Snaps[i].Chunks = nil })
	}
	change(func(c *api.State) { c.Sess = append(c.Sess, api.Sess{}) })
	change(func(c *api.State) { c.Opens = append(c.Opens, api.Open{}) })
	change(func(c *api.State) { c.Snaps = append(c.Snaps, api.Snap{}) })
	change(func(c *api.State) { c.Sess = c.Sess[1:] })
	change(func(c *api.State) { c.Opens = c.Opens[:2] })
	change(func(c *api.State) { c.Snaps = nil })
	change(func(c *api.State) { slices.Reverse(c.Sess) })
	change(func(c *api.State) { slices.Reverse(c.Opens) })
	change(func(c *api.State) { slices.Reverse(c.Snaps) })
	return l
}

// deep is a copy made by hand.
func deep(s api.State) api.State {
	c := s
	c.Sess = append([]api.Sess(nil), s.Sess...)
	c.Opens = append([]api.Open(nil), s.Opens...)
	c.Snaps = nil
	for _, x := range s.Snaps {
		x.Chunks = append([]int(nil), x.Chunks...)
		c.Snaps = append(c.Snaps, x)
	}
	return c
}

func TestP7_2_Same(t *testing.T) {
	s := full()
	if !state.Same(s, s) || !state.Same(s, full()) || !state.Same(api.State{}, api.State{}) || !state.Same(state.Fresh(), state.Fresh()) {
		t.Error("what is the same is not Same")
	}
	if state.Same(s, plain()) || state.Same(s, api.State{}) || state.Same(state.Fresh(), api.State{}) {
		t.Error("what is not the same is Same")
	}
	l := changes(s)
	if len(l) < 100 {
		t.Fatal(len(l))
	}
	for _, c := range l {
		if state.Same(s, c) || state.Same(c, s) {
			t.Errorf("Same(%+v, %+v)", s, c)
		}
		if !state.Same(c, deep(c)) {
			t.Errorf("%+v is not Same as its copy", c)
		}
	}
}

func TestP7_2_SameOfNone(t *testing.T) {
	none := api.State{Version: 2, Next: 4, Snaps: []api.Snap{{ID: 1}}}
	empty := api.State{Version: 2, Next: 4, Sess: []api.Sess{}, Opens: []api.Open{}, Snaps: []api.Snap{{ID: 1, Chunks: []int{}}}}
	if !state.Same(none, empty) || !state.Same(empty, none) {
		t.Error("a list that is empty is not as good as none")
	}
	if !state.Same(api.State{Snaps: []api.Snap{}}, api.State{}) {
		t.Error("no snapshots are not as good as none")
	}
}

func TestP7_2_Copy(t *testing.T) {
	room := full()
	room.Sess, room.Opens, room.Snaps = room.Sess[:2:3], room.Opens[:0], room.Snaps[:1]
	wrong := full() // copied, too, though it may not be
	wrong.Version, wrong.Next, wrong.Snaps[0].Chunks, wrong.Sess[0].Client = -1, math.MinInt, []int{70, 70, 0}, 99
	for _, s := range append(changes(full()), full(), plain(), state.Fresh(), api.State{}, room, wrong) {
		before := spelt(s)
		c := state.Copy(s)
		if spelt(c) != before || !state.Same(c, s) {
			t.Errorf("Copy(%+v) = %+v", s, c)
		}
		spoil(&c)
		if spelt(s) != before {
			t.Errorf("%s became %s by a change of its copy", before, spelt(s))
		}
		c = state.Copy(s)
		spoil(&s)
		if spelt(c) != before {
			t.Errorf("the copy %s became %s by a change of what was copied", before, spelt(c))
		}
	}
}

// spoil changes each number, and what stands in the spare room of each list.
func spoil(s *api.State) {
	for _, n := range numbers(s) {
		*n = 77
	}
	for i := range s.Snaps {
		s.Snaps[i].Held, s.Snaps[i].Tag = !s.Snaps[i].Held, "spoilt"
		_ = append(s.Snaps[i].Chunks, 77)
	}
	_ = append(s.Sess, api.Sess{Client: 77})
	_ = append(s.Opens, api.Open{Set: 77})
	_ = append(s.Snaps, api.Snap{ID: 77})
}

func TestP7_2_CopyShares(t *testing.T) {
	row := []int{3, 5}
	c := state.Copy(api.State{Snaps: []api.Snap{{ID: 1, Chunks: row}, {ID: 2, Chunks: row}}})
	c.Snaps[0].Chunks[0] = 4
	if c.Snaps[1].Chunks[0] != 3 || row[0] != 3 {
		t.Errorf("%+v, %v", c, row)
	}
}

func TestP7_2_Places(t *testing.T) {
	s := full()
	for _, n := range append(slices.Clone(edges), 1<<32+4, 5, 6) {
		client := map[int]int{1: 1, 4: 2, 8: 3}[n] - 1
		opened := map[int]int{1: 1, 3: 2, 8: 3}[n] - 1
		snap := map[int]int{1: 1, 3: 2, 8: 3}[n] - 1
		if at := state.Client(s, n); at != client {
			t.Errorf("Client(%d) = %d; want %d", n, at, client)
		}
		if at := state.Opened(s, n); at != opened {
			t.Errorf("Opened(%d) = %d; want %d", n, at, opened)
		}
		if at := state.Snap(s, n); at != snap {
			t.Errorf("Snap(%d) = %d; want %d", n, at, snap)
		}
		for _, none := range []api.State{{}, state.Fresh()} {
			if state.Client(none, n) != -1 || state.Opened(none, n) != -1 || state.Snap(none, n) != -1 {
				t.Errorf("%d has a place in %+v", n, none)
			}
		}
	}
}

// TestP7_2_FirstPlace asks catalogues that may not be: a thing twice, and numbers that there aren't.
func TestP7_2_FirstPlace(t *testing.T) {
	for _, n := range []int{0, -5, 7, math.MaxInt, math.MinInt} {
		other := n ^ 1
		s := api.State{
			Sess:  []api.Sess{{Client: other, Seq: n}, {Client: n}, {Client: n, Seq: 1}},
			Opens: []api.Open{{Set: other, Client: n}, {Set: other, Client: n}, {Set: n}, {Set: n}},
			Snaps: []api.Snap{{ID: n, Set: other}, {ID: other, Set: n}, {ID: n}},
		}
		if state.Client(s, n) != 1 || state.Client(s, other) != 0 || state.Opened(s, n) != 2 || state.Opened(s, other) != 0 || state.Snap(s, n) != 0 || state.Snap(s, other) != 1 {
			t.Errorf("%d: %d %d %d", n, state.Client(s, n), state.Opened(s, n), state.Snap(s, n))
		}
		if state.Client(s, n^2) != -1 || state.Opened(s, n^2) != -1 || state.Snap(s, n^2) != -1 {
			t.Errorf("%d has a place", n^2)
		}
	}
}

// plainKept is P7.3's text.
func plainKept(s api.State, at int) bool {
	for i := range s.Snaps {
		if i != at {
			continue
		}
		behind := 0
		for k := i + 1; k < len(s.Snaps); k++ {
			if s.Snaps[k].Set == s.Snaps[i].Set {
				behind++
			}
		}
		return behind < s.Keep
	}
	return false
}

func TestP7_3_Kept(t *testing.T) {
	of := func(keep int, sets ...int) api.State {
		s := api.State{Keep: keep}
		for i, set := range sets {
			s.Snaps = append(s.Snaps, api.Snap{ID: i + 1, Set: set})
		}
		return s
	}
	for _, c := range []struct {
		s    api.State
		want []bool
	}{
		{of(1, 2, 2), []bool{false, true}}, // the chapter's example
		{of(0, 2, 2), []bool{false, false}},
		{of(2, 2, 2), []bool{true, true}},
		{of(1, 2, 3, 2, 3, 4), []bool{false, false, true, true, true}},
		{of(2, 2, 3, 2, 3, 2), []bool{false, true, true, true, true}},
		{of(8, 1, 1, 1, 1, 1, 1, 1, 1, 1), []bool{false, true, true, true, true, true, true, true, true}},
		{of(8, 1), []bool{true}},
		{of(0, 1), []bool{false}},
		{of(3), nil},
		{of(-1, 1, 2), []bool{false, false}}, // one that may not be
		{of(math.MaxInt, 1, 1, -9), []bool{true, true, true}},
		{of(math.MinInt, 1, 1), []bool{false, false}},
	} {
		for at, want := range c.want {
			if is := state.Kept(c.s, at); is != want {
				t.Errorf("Kept(%+v, %d) = %v", c.s, at, is)
			}
		}
		for _, at := range []int{-1, len(c.want), len(c.want) + 1, 1 << 32, math.MaxInt, math.MinInt} {
			if state.Kept(c.s, at) {
				t.Errorf("Kept(%+v, %d), which is no place", c.s, at)
			}
		}
	}
}

// TestP7_3_SmallRows holds all rows of up to six snapshots of three sets.
func TestP7_3_SmallRows(t *testing.T) {
	var each func(s api.State)
	each = func(s api.State) {
		for keep := -1; keep <= 7; keep++ {
			s.Keep = keep
			for at := -1; at <= 7; at++ {
				if is := state.Kept(s, at); is != plainKept(s, at) {
					t.Errorf("Kept(%+v, %d) = %v", s, at, is)
				}
			}
		}
		if len(s.Snaps) < 6 {
			for set := 1; set <= 3; set++ {
				longer := s
				longer.Snaps = append(slices.Clone(s.Snaps), api.Snap{ID: len(s.Snaps) + 1, Set: set})
				each(longer)
			}
		}
	}
	each(api.State{})
}

func TestP7_4_WhatMayBeAtAVersionMayBeAtAGreaterOne(t *testing.T) {
	first := map[int]int{} // how many may be first at each version
	for _, s := range append(append(changes(full()), changes(plain())...), full(), plain(), state.Fresh()) {
		may := 4
		for version := 3; version >= 1; version-- {
			switch e := state.May(s, version); {
			case e == api.OK && may != version+1:
				t.Errorf("%+v may be at %d, and not at %d", s, version, version+1)
			case e == api.OK:
				may = version
			}
		}
		first[may]++
	}
	for may := 1; may <= 4; may++ {
		if first[may] == 0 {
			t.Errorf("none of these is one that may be from version %d on", may)
		}
	}
}

// FuzzP7 makes a catalogue of bytes, each a number, and holds each call against the chapter.
func FuzzP7(f *testing.F) {
	f.Add([]byte{3, 9, 1, 40, 2, 1, 5, 0, 1, 4, 6, 16, 0, 2, 1, 2, 3, 1, 2, 1, 2, 2, 5, 6, 1, 3, 4, 2, 1, 7, 0, 0}, 1, 3)
	f.Add([]byte{1, 1, 0, 0, 0, 0, 0}, 2, 0)
	f.Fuzz(func(t *testing.T, b []byte, version, n int) {
		next := func() int {
			if len(b) == 0 {
				return 0
			}
			x := int(b[0]) - 1 // so that -1 is there, too
			if b[0] == 200 {
				x = 1 << 20
			}
			b = b[1:]
			return x
		}
		s := api.State{Version: next(), Next: next(), Keep: next(), Quota: next()}
		for range next() {
			s.Sess = append(s.Sess, api.Sess{Client: next(), Seq: next(), Last: api.Reply{Code: api.Errno(next()), N: next()}})
		}
		for range next() {
			s.Opens = append(s.Opens, api.Open{Set: next(), Client: next()})
		}
		for range next() {
			x := api.Snap{ID: next(), Set: next(), Held: next() == 1, Tag: strings.Repeat("x", max(0, next()))}
			for range next() {
				x.Chunks = append(x.Chunks, next())
			}
			s.Snaps = append(s.Snaps, x)
		}
		before := spelt(s)
		mayHolds(t, s)
		if e := state.May(s, version); e != plainMay(s, version) {
			t.Errorf("May(%+v, %d) = %d", s, version, e)
		}
		if c := state.Copy(s); spelt(c) != before || !state.Same(c, s) || !state.Same(s, c) {
			t.Errorf("Copy(%+v) = %+v", s, c)
		}
		if at := state.Client(s, n); at != slices.IndexFunc(s.Sess, func(x api.Sess) bool { return x.Client == n }) {
			t.Errorf("Client(%+v, %d) = %d", s, n, at)
		}
		if at := state.Opened(s, n); at != slices.IndexFunc(s.Opens, func(x api.Open) bool { return x.Set == n }) {
			t.Errorf("Opened(%+v, %d) = %d", s, n, at)
		}
		if at := state.Snap(s, n); at != slices.IndexFunc(s.Snaps, func(x api.Snap) bool { return x.ID == n }) {
			t.Errorf("Snap(%+v, %d) = %d", s, n, at)
		}
		if is := state.Kept(s, n); is != plainKept(s, n) {
			t.Errorf("Kept(%+v, %d) = %v", s, n, is)
		}
		if after := spelt(s); after != before {
			t.Errorf("%s became %s", before, after)
		}
	})
}

func TestR7_WhatIsHandedInIsNotChanged(t *testing.T) {
	room := full()
	for i := range room.Snaps {
		room.Snaps[i].Chunks = append(room.Snaps[i].Chunks, 88, 89)
	}
	before := spelt(room)
	s := room
	s.Sess, s.Opens, s.Snaps = room.Sess[:2], room.Opens[:2], slices.Clone(room.Snaps)[:2]
	for i := range s.Snaps {
		l := room.Snaps[i].Chunks
		s.Snaps[i].Chunks = l[:len(l)-2]
	}
	for version := range 5 {
		state.May(s, version)
		state.Same(s, room)
		state.Client(s, version)
		state.Opened(s, version)
		state.Snap(s, version)
		state.Kept(s, version)
		c := state.Copy(s)
		spoil(&c)
	}
	if after := spelt(room); after != before {
		t.Errorf("%s became %s", before, after)
	}
}

func TestR6_CallsDoNotHangOnEachOther(t *testing.T) {
	for range 3 {
		s := state.Fresh()
		if spelt(s) != spelt(api.State{Version: 1, Next: 1}) {
			t.Errorf("Fresh = %+v", s)
		}
		s.Version, s.Next, s.Sess = 3, 9, append(s.Sess, api.Sess{Client: 3})
		if state.May(s, 3) != api.OK || state.May(full(), 1) != api.ErrField || state.Client(s, 3) != 0 {
			t.Error("May")
		}
	}
}
