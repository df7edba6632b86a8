package apply_test

import (
	"fmt"
	"math"
	"slices"
	"strings"
	"testing"

	"coracle/api"
	"coracle/apply"
	"coracle/command"
	"coracle/state"
)

// edges are numbers at, and beside, each bound of the chapters, and some of which the last bits only are within one.
var edges = []int{math.MinInt, -1 << 32, -1, 0, 1, 2, 3, 4, 5, 6, 7, 8, 9, 10, 12, 16, 20, 40, 64, 65,
	1<<20 - 1, 1 << 20, 1<<20 + 1, 1<<32 + 1, 1<<32 + 3, math.MaxInt}

// texts are some that may be a Tag, and one that may not.
var texts = []string{"", "a", "\x00\xff", "sixteen bytes, !", "seventeen bytes!!"}

// rows are some that may be a commit's chunks, and some that may not.
var rows = [][]int{nil, {}, {1}, {64}, {5, 9}, {1, 2, 3, 4, 5, 6, 7, 8}, {1, 2, 3, 4, 5, 6, 7, 8, 9}, {0}, {65}, {9, 5}, {5, 5}, {-1, 5}}

// full is a catalogue with something in each part, at version 3.
func full() api.State {
	return api.State{
		Version: 3, Next: 10, Keep: 1, Quota: 9,
		Sess: []api.Sess{
			{Client: 2},
			{Client: 4, Seq: 7, Last: api.Reply{Code: api.ErrBusy, N: 3}},
			{Client: 7, Seq: 1<<20 - 1, Last: api.Reply{N: 9}},
			{Client: 8, Seq: 1 << 20, Last: api.Reply{Code: 99, N: 1 << 20}},
		},
		Opens: []api.Open{{Set: 2, Client: 4}, {Set: 4, Client: 7}, {Set: 7, Client: 1}},
		Snaps: []api.Snap{
			{ID: 1, Set: 2, Chunks: []int{1, 5}},
			{ID: 3, Set: 8, Chunks: []int{1, 2, 3, 4, 5, 6, 7, 64}, Held: true, Tag: "sixteen bytes, !"},
			{ID: 4, Set: 2, Chunks: []int{9}, Tag: "\x00\xff"},
			{ID: 8, Set: 8, Chunks: []int{64}, Held: true},
			{ID: 9, Set: 2, Chunks: []int{1, 64}},
		},
	}
}

// older is that as a catalogue of an older version may be.
func older(version int) api.State {
	s := full()
	s.Version, s.Quota = version, 0
	for i := range s.Snaps {
		s.Snaps[i].Tag = ""
		s.Snaps[i].Held = s.Snaps[i].Held && version >= 2
	}
	return s
}

// crammed has as many clients, open sets and snapshots as there may be.
func crammed() api.State {
	s := api.State{Version: 3, Next: 100}
	for n := 1; n <= 8; n++ {
		s.Sess = append(s.Sess, api.Sess{Client: n, Seq: 6})
		s.Opens = append(s.Opens, api.Open{Set: n, Client: 9 - n})
	}
	for n := 1; n <= 16; n++ {
		s.Snaps = append(s.Snaps, api.Snap{ID: 3 * n, Set: n%3 + 1, Chunks: []int{n, n + 1}})
	}
	return s
}

// ended is one whose IDs are all given.
func ended() api.State {
	s := full()
	s.Next, s.Quota = 1<<20, 0
	return s
}

// states are catalogues that may be.
func states() []api.State {
	quota := full()
	quota.Quota = 0
	lax := full()
	lax.Keep = 0
	return []api.State{state.Fresh(), older(1), older(2), older(3), full(), quota, lax, crammed(), ended()}
}

// wrong are catalogues that may not be at their own Version.
func wrong() []api.State {
	l := []api.State{{}, {Version: 1}, {Next: 1}, {Version: 4, Next: 1}, {Version: -1, Next: 1}, {Version: 1<<32 + 1, Next: 1}, {Version: 1, Next: 1<<20 + 1}}
	turn := func(s api.State, how func(s *api.State)) {
		how(&s)
		l = append(l, s)
	}
	turn(older(2), func(s *api.State) { s.Version = 1 }) // held
	turn(full(), func(s *api.State) { s.Version = 2 })   // a quota, and tags
	turn(full(), func(s *api.State) { s.Sess[0], s.Sess[1] = s.Sess[1], s.Sess[0] })
	turn(full(), func(s *api.State) { s.Sess[1].Client = 2 })
	turn(full(), func(s *api.State) { s.Opens[2].Set = 4 })
	turn(full(), func(s *api.State) { s.Snaps[1].ID = 1 })
	turn(full(), func(s *api.State) { s.Snaps[0].Chunks = []int{5, 5} })
	turn(full(), func(s *api.State) { s.Snaps[0].Chunks = nil })
	turn(crammed(), func(s *api.State) { s.Snaps = append(s.Snaps, api.Snap{ID: 99, Set: 1, Chunks: []int{1}}) })
	return l
}

// good has a command of each kind.
var good = map[int]api.Command{
	api.Register: {Kind: api.Register, Client: 4},
	api.Begin:    {Kind: api.Begin, Client: 4, Seq: 8, Set: 2},
	api.Commit:   {Kind: api.Commit, Client: 4, Seq: 8, Set: 2, Chunks: []int{5, 9}},
	api.Abort:    {Kind: api.Abort, Client: 4, Seq: 8, Set: 2},
	api.Prune:    {Kind: api.Prune, Client: 4, Seq: 8, ID: 1},
	api.Keep:     {Kind: api.Keep, Client: 4, Seq: 8, N: 2},
	api.Look:     {Kind: api.Look, Client: 4, Seq: 8, ID: 3},
	api.Bump:     {Kind: api.Bump, N: 2},
	api.Hold:     {Kind: api.Hold, Client: 4, Seq: 8, ID: 1},
	api.Release:  {Kind: api.Release, Client: 4, Seq: 8, ID: 3},
	api.Tag:      {Kind: api.Tag, Client: 4, Seq: 8, ID: 1, Text: "monday"},
	api.Quota:    {Kind: api.Quota, Client: 4, Seq: 8, N: 3},
}

// eachCommand tells commands of each kind, of some of which one part, or two, are edges; and one of each number that is no kind.
func eachCommand(see func(c api.Command)) {
	for kind := -1; kind <= 100; kind++ {
		plain := good[kind]
		plain.Kind = kind
		see(plain)
		if good[kind].Kind == 0 {
			continue
		}
		for _, text := range texts {
			see(with(plain, func(c *api.Command) { c.Text = text }))
		}
		for _, row := range rows {
			see(with(plain, func(c *api.Command) { c.Chunks = row }))
		}
		for at := range numbers(&plain) {
			for _, n := range edges {
				c := with(plain, func(c *api.Command) { *numbers(c)[at] = n })
				see(c)
				for other := range at {
					for _, m := range []int{1, 4, 8} {
						see(with(c, func(c *api.Command) { *numbers(c)[other] = m }))
					}
				}
			}
		}
	}
}

// numbers are the places of a command's numbers, but its Kind.
func numbers(c *api.Command) []*int {
	return []*int{&c.Client, &c.Seq, &c.Set, &c.ID, &c.N}
}

// spelt is all of a catalogue as a text, in which a list without anything is as good as none.
func spelt(s api.State) string {
	text := fmt.Sprint(s.Version, s.Next, s.Keep, s.Quota, s.Sess, s.Opens)
	for _, x := range s.Snaps {
		text += fmt.Sprintf(" {%d %d %v %t %q}", x.ID, x.Set, x.Chunks, x.Held, x.Tag)
	}
	return text
}

// plainUsed are the chunks that snapshots have.
func plainUsed(l []api.Snap) map[int]bool {
	used := map[int]bool{}
	for _, x := range l {
		for _, chunk := range x.Chunks {
			used[chunk] = true
		}
	}
	return used
}

// plainErr is what is told ahead of all else.
func plainErr(s api.State, c api.Command) api.Errno {
	if state.May(s, s.Version) != api.OK {
		return 1
	}
	return command.May(c, s.Version)
}

// plainDo is P8.1's text.
func plainDo(s api.State, c api.Command) (api.State, api.Reply) {
	s = state.Copy(s)
	if e := plainErr(s, c); e != 0 {
		return s, api.Reply{Code: e}
	}
	if c.Kind == 8 {
		if c.N == 2 && s.Version == 1 || c.N == 3 && s.Version == 2 {
			s.Version = c.N
			return s, api.Reply{N: c.N}
		}
		return s, api.Reply{Code: 1}
	}
	at := slices.IndexFunc(s.Sess, func(x api.Sess) bool { return x.Client == c.Client })
	if c.Kind == 1 {
		if at >= 0 {
			return s, api.Reply{Code: 12}
		}
		s.Sess = append(s.Sess, api.Sess{Client: c.Client})
		slices.SortFunc(s.Sess, func(a, b api.Sess) int { return a.Client - b.Client })
		return s, api.Reply{}
	}
	if at < 0 {
		return s, api.Reply{Code: 11}
	}
	if c.Seq == s.Sess[at].Seq {
		return s, s.Sess[at].Last
	}
	if c.Seq < s.Sess[at].Seq {
		return s, api.Reply{Code: 13}
	}
	if c.Seq-1 > s.Sess[at].Seq {
		return s, api.Reply{Code: 14}
	}
	s, r := plainAct(s, c)
	s.Sess[at].Seq = c.Seq
	s.Sess[at].Last = r
	return s, r
}

// plainAct is P8.2's text.
func plainAct(s api.State, c api.Command) (api.State, api.Reply) {
	s = state.Copy(s)
	if e := plainErr(s, c); e != 0 {
		return s, api.Reply{Code: e}
	}
	if c.Kind == 1 || c.Kind == 8 {
		return s, api.Reply{Code: 1}
	}
	open := map[int]int{} // who has a set open
	for _, x := range s.Opens {
		open[x.Set] = x.Client
	}
	closed := slices.DeleteFunc(slices.Clone(s.Opens), func(x api.Open) bool { return x.Set == c.Set })
	at := slices.IndexFunc(s.Snaps, func(x api.Snap) bool { return x.ID == c.ID })
	if c.ID != 0 && at < 0 {
		return s, api.Reply{Code: 15}
	}
	if (c.Kind == 3 || c.Kind == 4) && open[c.Set] != c.Client {
		return s, api.Reply{Code: 15}
	}
	r := api.Reply{}
	switch c.Kind {
	case 2:
		if open[c.Set] != 0 {
			return s, api.Reply{Code: 16, N: open[c.Set]}
		}
		s.Opens = append(s.Opens, api.Open{Set: c.Set, Client: c.Client})
		slices.SortFunc(s.Opens, func(a, b api.Open) int { return a.Set - b.Set })
	case 3:
		more := append(slices.Clone(s.Snaps), api.Snap{ID: s.Next, Set: c.Set, Chunks: slices.Clone(c.Chunks)})
		if len(more) > 16 || s.Next == 1048576 {
			return s, api.Reply{Code: 20}
		}
		if s.Quota > 0 && len(plainUsed(more)) > s.Quota {
			return s, api.Reply{Code: 19}
		}
		r.N = s.Next
		s.Next, s.Snaps, s.Opens = s.Next+1, more, closed
	case 4:
		s.Opens = closed
	case 5:
		behind := 0
		for _, x := range s.Snaps[at+1:] {
			if x.Set == s.Snaps[at].Set {
				behind++
			}
		}
		if s.Snaps[at].Held {
			return s, api.Reply{Code: 17}
		}
		if behind < s.Keep {
			return s, api.Reply{Code: 18}
		}
		left := append(slices.Clone(s.Snaps[:at]), s.Snaps[at+1:]...)
		r.N = len(plainUsed(s.Snaps)) - len(plainUsed(left))
		s.Snaps = left
	case 6:
		s.Keep = c.N
	case 7:
		r.N = len(s.Snaps[at].Chunks)
	case 9:
		if !s.Snaps[at].Held {
			r.N = 1
		}
		s.Snaps[at].Held = true
	case 10:
		if s.Snaps[at].Held {
			r.N = 1
		}
		s.Snaps[at].Held = false
	case 11:
		s.Snaps[at].Tag = c.Text
	case 12:
		s.Quota, r.N = c.N, len(plainUsed(s.Snaps))
	}
	return s, r
}

// holds fails unless Do and Act tell what the chapter says, and leave what they were handed as it was; it tells what Do told.
func holds(t *testing.T, s api.State, c api.Command) (api.State, api.Reply) {
	t.Helper()
	before, chunks := state.Copy(s), slices.Clone(c.Chunks)
	acted, actReply := apply.Act(s, c)
	wanted, wantReply := plainAct(s, c)
	same(t, "Act", s, c, acted, wanted, actReply, wantReply)
	done, doReply := apply.Do(s, c)
	wanted, wantReply = plainDo(s, c)
	same(t, "Do", s, c, done, wanted, doReply, wantReply)
	if !state.Same(s, before) || !slices.Equal(c.Chunks, chunks) {
		t.Errorf("%s, %v became %s, %v", spelt(before), chunks, spelt(s), c.Chunks)
	}
	return done, doReply
}

// same fails unless a call told what it should, and what may be may be behind it.
func same(t *testing.T, call string, s api.State, c api.Command, got, want api.State, reply, wantReply api.Reply) {
	t.Helper()
	if reply != wantReply || !state.Same(got, want) {
		t.Errorf("%s(%s, %+v) = %s, %v; want %s, %v", call, spelt(s), c, spelt(got), reply, spelt(want), wantReply)
	}
	if state.May(s, s.Version) == api.OK && state.May(got, got.Version) != api.OK {
		t.Errorf("%s(%s, %+v) = %s, which may not be", call, spelt(s), c, spelt(got))
	}
}

// row does commands one behind the other, and fails unless each is told what is said here.
func row(t *testing.T, s api.State, l []step) api.State {
	t.Helper()
	for i, x := range l {
		var r api.Reply
		s, r = holds(t, s, x.c)
		if r.Code != x.code || r.N != x.n {
			t.Errorf("%d: %+v: %v; want %d, %d", i, x.c, r, x.code, x.n)
		}
	}
	return s
}

type step struct {
	c    api.Command
	code api.Errno
	n    int
}

// with is a command, changed.
func with(c api.Command, how func(c *api.Command)) api.Command {
	how(&c)
	return c
}

func TestP8_1_Example(t *testing.T) {
	s, r := apply.Do(state.Fresh(), api.Command{Kind: api.Register, Client: 3})
	if r != (api.Reply{}) || spelt(s) != spelt(api.State{Version: 1, Next: 1, Sess: []api.Sess{{Client: 3}}}) {
		t.Errorf("Register: %s, %v", spelt(s), r)
	}
	after, r := apply.Do(s, api.Command{Kind: api.Begin, Client: 3, Seq: 2, Set: 1})
	if r != (api.Reply{Code: 14}) || spelt(after) != spelt(s) {
		t.Errorf("Begin: %s, %v", spelt(after), r)
	}
}

func TestP8_1_StateThatMayNotBe(t *testing.T) {
	l := wrong()
	for _, s := range l {
		for kind := -1; kind <= 13; kind++ {
			c := good[kind] // of a kind that there isn't a command of noughts: ErrArg is told either way
			c.Kind = kind
			for _, do := range []func(api.State, api.Command) (api.State, api.Reply){apply.Do, apply.Act} {
				after, r := do(s, c)
				if r != (api.Reply{Code: 1}) || spelt(after) != spelt(s) {
					t.Errorf("%+v of %s: %s, %v", c, spelt(s), spelt(after), r)
				}
			}
		}
		// Told ahead of ErrVersion, which the command has at versions 1 and 2.
		if _, r := holds(t, s, good[api.Tag]); r != (api.Reply{Code: 1}) {
			t.Errorf("a Tag of %s: %v", spelt(s), r)
		}
	}
}

func TestP8_1_CommandThatMayNotBe(t *testing.T) {
	for _, c := range []struct {
		c    api.Command
		want [4]api.Errno // by the Version of the catalogue
	}{
		{api.Command{}, [4]api.Errno{1, 1, 1, 1}},
		{api.Command{Kind: 13, Client: 4, Seq: 8}, [4]api.Errno{1, 1, 1, 1}},
		{api.Command{Kind: 99}, [4]api.Errno{1, 1, 1, 1}},
		{with(good[api.Begin], func(c *api.Command) { c.N = 1 }), [4]api.Errno{1, 1, 1, 1}},
		{with(good[api.Begin], func(c *api.Command) { c.Seq = 0 }), [4]api.Errno{1, 1, 1, 1}},
		{with(good[api.Begin], func(c *api.Command) { c.Client = 9 }), [4]api.Errno{1, 1, 1, 1}},
		{with(good[api.Commit], func(c *api.Command) { c.Chunks = nil }), [4]api.Errno{1, 1, 1, 1}},
		{with(good[api.Register], func(c *api.Command) { c.Seq = 1 }), [4]api.Errno{1, 1, 1, 1}},
		{with(good[api.Register], func(c *api.Command) { c.Client = 0 }), [4]api.Errno{1, 1, 1, 1}},
		{with(good[api.Bump], func(c *api.Command) { c.Client = 4 }), [4]api.Errno{1, 1, 1, 1}},
		{with(good[api.Hold], func(c *api.Command) { c.ID = 0 }), [4]api.Errno{1, 10, 1, 1}},
		{with(good[api.Tag], func(c *api.Command) { c.Text = texts[4] }), [4]api.Errno{1, 10, 10, 1}},
		{with(good[api.Quota], func(c *api.Command) { c.N = 65 }), [4]api.Errno{1, 10, 10, 1}},
		{with(good[api.Hold], func(c *api.Command) { c.Client = 1 }), [4]api.Errno{1, 10, 11, 11}},
		{with(good[api.Hold], func(c *api.Command) { c.Seq = 7 }), [4]api.Errno{1, 10, 16, 16}},
		{with(good[api.Hold], func(c *api.Command) { c.ID = 2 }), [4]api.Errno{1, 10, 15, 15}},
	} {
		for version := range 4 {
			s := older(version)
			after, r := holds(t, s, c.c)
			if r.Code != c.want[version] {
				t.Errorf("%+v at %d: %v; want %d", c.c, version, r, c.want[version])
			}
			if (r.Code == 1 || r.Code == 10) && (r.N != 0 || spelt(after) != spelt(s)) {
				t.Errorf("%+v at %d: %v, and the catalogue is %s", c.c, version, r, spelt(after))
			}
		}
	}
}

func TestP8_1_Bump(t *testing.T) {
	for version := 1; version <= 3; version++ {
		for _, n := range edges {
			s := older(version)
			after, r := holds(t, s, api.Command{Kind: api.Bump, N: n})
			want, wantReply := older(version), api.Reply{Code: 1}
			if n == version+1 && n <= 3 {
				want.Version, wantReply = n, api.Reply{N: n}
			}
			if r != wantReply || spelt(after) != spelt(want) {
				t.Errorf("Bump to %d at %d: %s, %v", n, version, spelt(after), r)
			}
		}
	}
	bumped := row(t, older(1), []step{
		{api.Command{Kind: api.Bump, N: 3}, 1, 0},
		{api.Command{Kind: api.Bump, N: 2}, 0, 2},
		{api.Command{Kind: api.Bump, N: 2}, 1, 0},
		{api.Command{Kind: api.Bump, N: 3}, 0, 3},
		{api.Command{Kind: api.Bump, N: 2}, 1, 0},
		{api.Command{Kind: api.Bump, N: 3}, 1, 0},
		{api.Command{Kind: api.Bump, N: 4}, 1, 0},
	})
	want := older(1)
	want.Version = 3
	if spelt(bumped) != spelt(want) {
		t.Errorf("%s", spelt(bumped))
	}
}

// TestP8_1_Register has the clients come in each of some orders: each goes to its place.
func TestP8_1_Register(t *testing.T) {
	for step := 1; step <= 8; step++ {
		for first := 1; first <= 8; first++ {
			s := state.Fresh()
			for k := range 9 {
				client := (first+k*step)%8 + 1
				there := state.Client(s, client) >= 0
				before := s
				var r api.Reply
				s, r = holds(t, s, api.Command{Kind: api.Register, Client: client})
				switch {
				case there && (r != api.Reply{Code: 12} || spelt(s) != spelt(before)):
					t.Errorf("Register %d again: %v, %s", client, r, spelt(s))
				case !there && (r != api.Reply{} || len(s.Sess) != len(before.Sess)+1):
					t.Errorf("Register %d: %v, %s", client, r, spelt(s))
				}
			}
			for i, x := range s.Sess {
				if x.Seq != 0 || x.Last != (api.Reply{}) || i > 0 && x.Client <= s.Sess[i-1].Client {
					t.Errorf("%s", spelt(s))
				}
			}
		}
	}
	after, r := holds(t, full(), api.Command{Kind: api.Register, Client: 5})
	want := full()
	want.Sess = slices.Insert(want.Sess, 2, api.Sess{Client: 5})
	if r != (api.Reply{}) || spelt(after) != spelt(want) {
		t.Errorf("%s, %v", spelt(after), r)
	}
	// One that is there keeps what it has.
	after, r = holds(t, full(), good[api.Register])
	if r != (api.Reply{Code: 12}) || spelt(after) != spelt(full()) {
		t.Errorf("%s, %v", spelt(after), r)
	}
}

func TestP8_1_Seq(t *testing.T) {
	look := func(client, seq int) api.Command {
		return api.Command{Kind: api.Look, Client: client, Seq: seq, ID: 3}
	}
	for _, c := range []struct {
		c    api.Command
		want api.Reply
	}{
		{look(1, 1), api.Reply{Code: 11}}, // no such client, though it has a set open
		{look(3, 1), api.Reply{Code: 11}},
		{look(2, 1), api.Reply{N: 8}}, // a client's first one
		{look(2, 2), api.Reply{Code: 14}},
		{look(2, 1<<20), api.Reply{Code: 14}},
		{look(4, 1), api.Reply{Code: 13}},
		{look(4, 6), api.Reply{Code: 13}},
		{look(4, 7), api.Reply{Code: 16, N: 3}}, // its Last, whatever is asked now
		{look(4, 8), api.Reply{N: 8}},
		{look(4, 9), api.Reply{Code: 14}},
		{look(7, 1<<20-2), api.Reply{Code: 13}},
		{look(7, 1<<20-1), api.Reply{N: 9}},
		{look(7, 1<<20), api.Reply{N: 8}},
		{look(7, 1<<20+1), api.Reply{Code: 1}},
		{look(8, 1<<20-1), api.Reply{Code: 13}},
		{look(8, 1<<20), api.Reply{Code: 99, N: 1 << 20}},
		{look(8, 1<<20+1), api.Reply{Code: 1}}, // no command any more
		{look(4, 0), api.Reply{Code: 1}},
		{look(2, 0), api.Reply{Code: 1}}, // though its Seq is 0
	} {
		after, r := holds(t, full(), c.c)
		want := full()
		if r.Code == 0 && r.N == 8 { // it was done
			want.Sess[state.Client(want, c.c.Client)] = api.Sess{Client: c.c.Client, Seq: c.c.Seq, Last: r}
		}
		if r != c.want || spelt(after) != spelt(want) {
			t.Errorf("%+v: %v, %s; want %v, %s", c.c, r, spelt(after), c.want, spelt(want))
		}
	}
}

// TestP8_1_SeqOfWhatIsRefused has each client's command that Act refuses: its Seq is noted, and the refusal is its Last.
func TestP8_1_SeqOfWhatIsRefused(t *testing.T) {
	for _, c := range []struct {
		how  func(c *api.Command)
		kind int
		want api.Reply
	}{
		{func(c *api.Command) { c.Set = 4 }, api.Begin, api.Reply{Code: 16, N: 7}},
		{func(c *api.Command) { c.Set = 4 }, api.Commit, api.Reply{Code: 15}},
		{func(c *api.Command) { c.Chunks = []int{10, 11} }, api.Commit, api.Reply{Code: 19}},
		{func(c *api.Command) { c.Set = 1 }, api.Abort, api.Reply{Code: 15}},
		{func(c *api.Command) { c.ID = 2 }, api.Prune, api.Reply{Code: 15}},
		{func(c *api.Command) { c.ID = 3 }, api.Prune, api.Reply{Code: 17}},
		{func(c *api.Command) { c.ID = 9 }, api.Prune, api.Reply{Code: 18}},
		{func(c *api.Command) { c.ID = 2 }, api.Look, api.Reply{Code: 15}},
		{func(c *api.Command) { c.ID = 2 }, api.Hold, api.Reply{Code: 15}},
		{func(c *api.Command) { c.ID = 2 }, api.Release, api.Reply{Code: 15}},
		{func(c *api.Command) { c.ID = 2 }, api.Tag, api.Reply{Code: 15}},
	} {
		asked := with(good[c.kind], c.how)
		after, r := holds(t, full(), asked)
		want := full()
		want.Sess[1] = api.Sess{Client: 4, Seq: 8, Last: c.want}
		if r != c.want || spelt(after) != spelt(want) {
			t.Errorf("%+v: %v, %s", asked, r, spelt(after))
		}
		// It comes again, behind something else that would change what comes of it.
		after.Opens, after.Quota, after.Keep = nil, 0, 0
		if again, r := holds(t, after, asked); r != c.want || spelt(again) != spelt(after) {
			t.Errorf("%+v again: %v, %s", asked, r, spelt(again))
		}
	}
}

// acts fails unless Act tells that reply, and the catalogue is as changed here; and Do the same, but for the Seq.
func acts(t *testing.T, s api.State, c api.Command, want api.Reply, change func(s *api.State)) {
	t.Helper()
	s = state.Copy(s)
	after, r := apply.Act(s, c)
	wanted := state.Copy(s)
	change(&wanted)
	if r != want || spelt(after) != spelt(wanted) {
		t.Errorf("Act of %+v: %v, %s; want %v, %s", c, r, spelt(after), want, spelt(wanted))
	}
	holds(t, s, c)
	s.Sess = []api.Sess{{Client: c.Client, Seq: c.Seq - 1, Last: api.Reply{Code: 50, N: 51}}}
	after, r = holds(t, s, c)
	wanted.Sess = []api.Sess{{Client: c.Client, Seq: c.Seq, Last: want}}
	if r != want || spelt(after) != spelt(wanted) {
		t.Errorf("Do of %+v: %v, %s; want %v, %s", c, r, spelt(after), want, spelt(wanted))
	}
}

func nothing(*api.State) {}

func TestP8_2_ActAsksNoClient(t *testing.T) {
	for _, s := range []api.State{full(), older(1), older(2)} {
		for _, client := range []int{1, 2, 4, 8} { // of which 1 is none, and 8 has no Seq left
			for _, seq := range []int{1, 7, 8, 100, 1 << 20} {
				c := api.Command{Kind: api.Keep, Client: client, Seq: seq, N: 6}
				after, r := apply.Act(s, c)
				want := state.Copy(s)
				want.Keep = 6
				if r != (api.Reply{}) || spelt(after) != spelt(want) {
					t.Errorf("%+v: %v, %s", c, r, spelt(after))
				}
			}
		}
	}
}

func TestP8_2_ActErrors(t *testing.T) {
	for version := 1; version <= 3; version++ {
		for kind := -1; kind <= 100; kind++ {
			c := good[kind]
			c.Kind = kind
			s := older(version)
			after, r := apply.Act(s, c)
			want := api.OK
			switch {
			case kind == api.Register || kind == api.Bump || kind < 1 || kind > 12:
				want = 1
			case command.Need(kind) > version:
				want = 10
			default:
				continue
			}
			if r != (api.Reply{Code: want}) || spelt(after) != spelt(s) {
				t.Errorf("Act of %+v at %d: %v, %s", c, version, r, spelt(after))
			}
		}
		for n := 1; n <= 4; n++ {
			if after, r := apply.Act(older(version), api.Command{Kind: api.Bump, N: n}); r != (api.Reply{Code: 1}) || after.Version != version {
				t.Errorf("Act of a Bump to %d at %d: %v", n, version, r)
			}
		}
		for client := 0; client <= 9; client++ {
			if after, r := apply.Act(older(version), api.Command{Kind: api.Register, Client: client}); r != (api.Reply{Code: 1}) || len(after.Sess) != 4 {
				t.Errorf("Act of a Register of %d at %d: %v", client, version, r)
			}
		}
	}
}

func TestP8_2_Begin(t *testing.T) {
	begin := func(client, set int) api.Command {
		return api.Command{Kind: api.Begin, Client: client, Seq: 8, Set: set}
	}
	for _, set := range []int{1, 3, 5, 6, 8} {
		acts(t, full(), begin(3, set), api.Reply{}, func(s *api.State) {
			at := map[int]int{1: 0, 3: 1, 5: 2, 6: 2, 8: 3}[set]
			s.Opens = slices.Insert(s.Opens, at, api.Open{Set: set, Client: 3})
		})
	}
	for client := 1; client <= 8; client++ { // the own client is no other
		acts(t, full(), begin(client, 2), api.Reply{Code: 16, N: 4}, nothing)
		acts(t, full(), begin(client, 4), api.Reply{Code: 16, N: 7}, nothing)
		acts(t, full(), begin(client, 7), api.Reply{Code: 16, N: 1}, nothing)
		acts(t, state.Fresh(), begin(client, 1), api.Reply{}, func(s *api.State) { s.Opens = []api.Open{{Set: 1, Client: client}} })
	}
	acts(t, ended(), begin(3, 1), api.Reply{}, func(s *api.State) { s.Opens = slices.Insert(s.Opens, 0, api.Open{Set: 1, Client: 3}) })
}

func commitOf(client, set int, chunks ...int) api.Command {
	return api.Command{Kind: api.Commit, Client: client, Seq: 8, Set: set, Chunks: chunks}
}

func TestP8_2_Commit(t *testing.T) {
	for version := 1; version <= 3; version++ {
		s := older(version)
		for _, chunks := range [][]int{{1}, {64}, {10, 11, 12, 13, 14, 15, 16, 17}} {
			acts(t, s, commitOf(7, 4, chunks...), api.Reply{N: 10}, func(s *api.State) {
				s.Next = 11
				s.Snaps = append(s.Snaps, api.Snap{ID: 10, Set: 4, Chunks: chunks})
				s.Opens = slices.Delete(s.Opens, 1, 2)
			})
		}
		for client := 1; client <= 8; client++ {
			if client != 7 {
				acts(t, s, commitOf(client, 4, 1), api.Reply{Code: 15}, nothing)
			}
			for _, set := range []int{1, 3, 5, 6, 8} {
				acts(t, s, commitOf(client, set, 1), api.Reply{Code: 15}, nothing)
			}
		}
	}
	last := state.Fresh()
	last.Opens = []api.Open{{Set: 1, Client: 3}}
	acts(t, last, commitOf(3, 1, 7), api.Reply{N: 1}, func(s *api.State) {
		s.Next, s.Opens, s.Snaps = 2, nil, []api.Snap{{ID: 1, Set: 1, Chunks: []int{7}}}
	})
}

func TestP8_2_CommitFull(t *testing.T) {
	s := crammed()
	acts(t, s, commitOf(7, 2, 1), api.Reply{Code: 20}, nothing)
	acts(t, s, commitOf(8, 2, 1), api.Reply{Code: 15}, nothing) // told first
	s.Quota = 1
	acts(t, s, commitOf(7, 2, 40), api.Reply{Code: 20}, nothing) // ahead of ErrQuota
	s.Quota, s.Snaps = 0, s.Snaps[:15]
	acts(t, s, commitOf(7, 2, 1), api.Reply{N: 100}, func(s *api.State) {
		s.Next, s.Snaps, s.Opens = 101, append(s.Snaps, api.Snap{ID: 100, Set: 2, Chunks: []int{1}}), slices.Delete(s.Opens, 1, 2)
	})
	s = ended()
	acts(t, s, commitOf(7, 4, 1), api.Reply{Code: 20}, nothing)
	s.Quota = 1
	acts(t, s, commitOf(7, 4, 40), api.Reply{Code: 20}, nothing)
	s.Quota, s.Next = 0, 1<<20-1
	acts(t, s, commitOf(7, 4, 1), api.Reply{N: 1<<20 - 1}, func(s *api.State) {
		s.Next, s.Snaps, s.Opens = 1<<20, append(s.Snaps, api.Snap{ID: 1<<20 - 1, Set: 4, Chunks: []int{1}}), slices.Delete(s.Opens, 1, 2)
	})
}

// TestP8_2_CommitQuota holds all quotas: the snapshots of full use 9 chunks.
func TestP8_2_CommitQuota(t *testing.T) {
	for quota := 0; quota <= 64; quota++ {
		for _, c := range []struct {
			chunks []int
			with   int
		}{
			{[]int{1}, 9},
			{[]int{1, 2, 3, 4, 5, 6, 7, 64}, 9},
			{[]int{8}, 10},
			{[]int{9, 10}, 10},
			{[]int{10, 11}, 11},
			{[]int{20, 21, 22, 23, 24, 25, 26, 27}, 17},
		} {
			s := full()
			s.Quota = quota
			if quota != 0 && c.with > quota {
				acts(t, s, commitOf(4, 2, c.chunks...), api.Reply{Code: 19}, nothing)
				acts(t, s, commitOf(1, 2, c.chunks...), api.Reply{Code: 15}, nothing) // told first
				continue
			}
			acts(t, s, commitOf(4, 2, c.chunks...), api.Reply{N: 10}, func(s *api.State) {
				s.Next, s.Snaps, s.Opens = 11, append(s.Snaps, api.Snap{ID: 10, Set: 2, Chunks: c.chunks}), s.Opens[1:]
			})
		}
	}
}

func TestP8_2_Abort(t *testing.T) {
	abort := func(client, set int) api.Command {
		return api.Command{Kind: api.Abort, Client: client, Seq: 8, Set: set}
	}
	has := map[int]int{2: 4, 4: 7, 7: 1}
	for set := 1; set <= 8; set++ {
		for client := 1; client <= 8; client++ {
			for _, s := range []api.State{full(), older(1), ended()} {
				if has[set] != client {
					acts(t, s, abort(client, set), api.Reply{Code: 15}, nothing)
					continue
				}
				acts(t, s, abort(client, set), api.Reply{}, func(s *api.State) {
					at := map[int]int{2: 0, 4: 1, 7: 2}[set]
					s.Opens = slices.Delete(s.Opens, at, at+1)
				})
			}
		}
	}
}

func TestP8_2_Prune(t *testing.T) {
	prune := func(id int) api.Command { return api.Command{Kind: api.Prune, Client: 3, Seq: 8, ID: id} }
	for _, id := range []int{2, 5, 6, 7, 10, 11, 1 << 20} {
		acts(t, full(), prune(id), api.Reply{Code: 15}, nothing)
	}
	gone := func(at int) func(s *api.State) {
		return func(s *api.State) { s.Snaps = slices.Delete(s.Snaps, at, at+1) }
	}
	s := full()
	acts(t, s, prune(1), api.Reply{}, gone(0)) // what it has, others have
	acts(t, s, prune(3), api.Reply{Code: 17}, nothing)
	acts(t, s, prune(4), api.Reply{N: 1}, gone(2))
	acts(t, s, prune(8), api.Reply{Code: 17}, nothing) // held, and kept
	acts(t, s, prune(9), api.Reply{Code: 18}, nothing)
	s.Keep = 2
	acts(t, s, prune(1), api.Reply{}, gone(0))
	acts(t, s, prune(4), api.Reply{Code: 18}, nothing)
	s.Keep = 3
	acts(t, s, prune(1), api.Reply{Code: 18}, nothing)
	s.Keep = 0
	acts(t, s, prune(9), api.Reply{}, gone(4))
	acts(t, s, prune(8), api.Reply{Code: 17}, nothing)
	s.Snaps[1].Held = false
	acts(t, s, prune(3), api.Reply{N: 5}, gone(1)) // 2 3 4 6 7; others have 1, 5 and 64
	s = older(1)
	acts(t, s, prune(3), api.Reply{N: 5}, gone(1))
	acts(t, s, prune(8), api.Reply{Code: 18}, nothing)
	s.Snaps = s.Snaps[1:2]
	acts(t, s, prune(3), api.Reply{Code: 18}, nothing)
	s.Keep = 0
	acts(t, s, prune(3), api.Reply{N: 8}, gone(0))
}

// TestP8_2_PruneGivesNoIDAgain commits behind a Prune of the last snapshot.
func TestP8_2_PruneGivesNoIDAgain(t *testing.T) {
	row(t, state.Fresh(), []step{
		{api.Command{Kind: api.Register, Client: 1}, 0, 0},
		{api.Command{Kind: api.Begin, Client: 1, Seq: 1, Set: 1}, 0, 0},
		{api.Command{Kind: api.Commit, Client: 1, Seq: 2, Set: 1, Chunks: []int{1}}, 0, 1},
		{api.Command{Kind: api.Prune, Client: 1, Seq: 3, ID: 1}, 0, 1},
		{api.Command{Kind: api.Begin, Client: 1, Seq: 4, Set: 1}, 0, 0},
		{api.Command{Kind: api.Commit, Client: 1, Seq: 5, Set: 1, Chunks: []int{1}}, 0, 2},
		{api.Command{Kind: api.Prune, Client: 1, Seq: 6, ID: 1}, 15, 0},
	})
}

func TestP8_2_Keep(t *testing.T) {
	for version := 1; version <= 3; version++ {
		for n := 0; n <= 8; n++ {
			acts(t, older(version), api.Command{Kind: api.Keep, Client: 3, Seq: 8, N: n}, api.Reply{}, func(s *api.State) { s.Keep = n })
		}
	}
}

func TestP8_2_Look(t *testing.T) {
	many := map[int]int{1: 2, 3: 8, 4: 1, 8: 1, 9: 2}
	for version := 1; version <= 3; version++ {
		for id := 1; id <= 12; id++ {
			want := api.Reply{N: many[id]}
			if many[id] == 0 {
				want.Code = 15
			}
			acts(t, older(version), api.Command{Kind: api.Look, Client: 3, Seq: 8, ID: id}, want, nothing)
		}
	}
}

func TestP8_2_HoldAndRelease(t *testing.T) {
	held := map[int]bool{3: true, 8: true}
	for version := 2; version <= 3; version++ {
		for id := 1; id <= 12; id++ {
			at := state.Snap(full(), id)
			for _, hold := range []bool{true, false} {
				c := api.Command{Kind: api.Release, Client: 3, Seq: 8, ID: id}
				if hold {
					c.Kind = api.Hold
				}
				want := api.Reply{}
				switch {
				case at < 0:
					want.Code = 15
				case held[id] != hold:
					want.N = 1
				}
				acts(t, older(version), c, want, func(s *api.State) {
					if at >= 0 {
						s.Snaps[at].Held = hold
					}
				})
			}
		}
	}
}

func TestP8_2_Tag(t *testing.T) {
	for id := 1; id <= 12; id++ {
		at := state.Snap(full(), id)
		for _, text := range texts[:4] {
			want := api.Reply{}
			if at < 0 {
				want.Code = 15
			}
			acts(t, full(), api.Command{Kind: api.Tag, Client: 3, Seq: 8, ID: id, Text: text}, want, func(s *api.State) {
				if at >= 0 {
					s.Snaps[at].Tag = text
				}
			})
		}
	}
}

func TestP8_2_Quota(t *testing.T) {
	for n := 0; n <= 64; n++ {
		c := api.Command{Kind: api.Quota, Client: 3, Seq: 8, N: n}
		acts(t, full(), c, api.Reply{N: 9}, func(s *api.State) { s.Quota = n })
		acts(t, crammed(), c, api.Reply{N: 17}, func(s *api.State) { s.Quota = n })
		none := full()
		none.Snaps = nil
		acts(t, none, c, api.Reply{}, func(s *api.State) { s.Quota = n })
	}
}

// TestP8_3_EachCommand holds each command, with edges in its parts, against the chapter's text; what may be, may be behind it.
func TestP8_3_EachCommand(t *testing.T) {
	codes := map[api.Errno]int{}
	for _, s := range states() {
		if e := state.May(s, s.Version); e != api.OK {
			t.Fatalf("%s may not be", spelt(s))
		}
		eachCommand(func(c api.Command) {
			_, r := holds(t, s, c)
			codes[r.Code]++
		})
	}
	for _, e := range []api.Errno{0, 1, 10, 11, 12, 13, 14, 15, 16, 17, 18, 19, 20} {
		if codes[e] == 0 {
			t.Errorf("nothing told %d", e)
		}
	}
}

// chance tells numbers one behind the other, always the same ones.
type chance uint64

func (x *chance) below(n int) int {
	*x = *x*6364136223846793005 + 1442695040888963407
	return int(uint64(*x) >> 33 % uint64(n))
}

// command is one of few clients, sets and IDs, so that it is often done; its Seq is mostly the next one.
func (x *chance) command(s api.State) api.Command {
	c := api.Command{Kind: x.below(12) + 1}
	if x.below(2) == 0 {
		c.Kind = api.Begin + x.below(2)
	}
	if c.Kind == api.Bump {
		c.N = x.below(2) + 2
		return c
	}
	c.Client = x.below(3) + 1
	switch c.Kind {
	case api.Register:
		return c
	case api.Begin, api.Commit, api.Abort:
		c.Set = x.below(4) + 1
		if open := len(s.Opens); open > 0 && x.below(4) > 0 && c.Kind != api.Begin {
			own := s.Opens[x.below(open)]
			c.Set, c.Client = own.Set, own.Client
		}
	case api.Keep:
		c.N = x.below(4)
	case api.Quota:
		c.N = x.below(2) * x.below(65)
	default:
		c.ID = max(1, s.Next-x.below(24))
	}
	if c.Kind == api.Tag {
		c.Text = strings.Repeat("x", x.below(17))
	}
	for chunk := 1; c.Kind == api.Commit && chunk <= 64 && len(c.Chunks) < 8; chunk += x.below(12) + 1 {
		c.Chunks = append(c.Chunks, chunk)
	}
	if at := state.Client(s, c.Client); at >= 0 {
		c.Seq = s.Sess[at].Seq
	}
	c.Seq = max(1, c.Seq+[]int{-1, 0, 2, 1, 1, 1, 1, 1, 1, 1, 1, 1}[x.below(12)])
	return c
}

func TestP8_3_LongRows(t *testing.T) {
	codes := map[api.Errno]int{}
	for turn := range 40 {
		x := chance(turn)
		s := state.Fresh()
		for range 400 {
			var r api.Reply
			s, r = holds(t, s, x.command(s))
			codes[r.Code]++
		}
	}
	for _, e := range []api.Errno{0, 1, 10, 11, 12, 13, 14, 15, 16, 17, 18, 19, 20} {
		if codes[e] == 0 {
			t.Errorf("no row told %d: %v", e, codes)
		}
	}
}

// TestP8_3_WhatComesTwiceIsDoneOnce has each command of a client come again: at once, and behind others' commands.
func TestP8_3_WhatComesTwiceIsDoneOnce(t *testing.T) {
	for turn := range 20 {
		x := chance(turn + 1000)
		s := state.Fresh()
		for range 300 {
			c := x.command(s)
			after, r := apply.Do(s, c)
			if c.Kind == api.Register || c.Kind == api.Bump {
				s = after
				continue
			}
			again, same := holds(t, after, c)
			if same != r || spelt(again) != spelt(after) {
				t.Errorf("%+v of %s twice: %v, %v; %s, %s", c, spelt(s), r, same, spelt(after), spelt(again))
			}
			at := state.Client(after, c.Client)
			if at >= 0 && after.Sess[at].Seq == c.Seq {
				for range 5 {
					if d := x.command(after); d.Client != c.Client {
						after, _ = apply.Do(after, d)
					}
				}
				if again, same = holds(t, after, c); same != r || spelt(again) != spelt(after) {
					t.Errorf("%+v again behind others: %v, %v", c, r, same)
				}
			}
			s = after
		}
	}
}

// FuzzP8 does a row of commands made of bytes, from a catalogue of a few on.
func FuzzP8(f *testing.F) {
	f.Add([]byte{1, 3, 0, 0, 0, 0, 0, 2, 3, 1, 1, 0, 0, 0, 3, 3, 2, 1, 0, 0, 7}, 0)
	f.Add([]byte{8, 0, 0, 0, 0, 2, 0, 8, 0, 0, 0, 0, 3, 0, 12, 4, 8, 0, 0, 9, 0, 5, 4, 9, 0, 1, 0, 0}, 1)
	f.Add([]byte{3, 4, 8, 2, 0, 0, 255, 9, 4, 9, 0, 10, 0, 0, 11, 4, 10, 0, 10, 0, 21}, 4)
	f.Fuzz(func(t *testing.T, b []byte, which int) {
		l := append(states(), wrong()...)
		s := l[(which%len(l)+len(l))%len(l)]
		for b = b[:min(len(b), 7*100)]; len(b) >= 7; b = b[7:] {
			c := api.Command{Kind: int(b[0]), Client: int(b[1]), Seq: int(b[2]), Set: int(b[3]), ID: int(b[4]), N: int(b[5])}
			if c.Kind == api.Commit {
				for bit := range 8 {
					if b[6]>>bit&1 == 1 {
						c.Chunks = append(c.Chunks, bit*9+1)
					}
				}
			} else {
				c.Text = strings.Repeat("t", int(b[6]))
			}
			after, r := holds(t, s, c)
			if c.Kind != api.Register && c.Kind != api.Bump {
				if again, same := holds(t, after, c); same != r || spelt(again) != spelt(after) {
					t.Errorf("%+v twice: %v, %v", c, r, same)
				}
			}
			s = after
		}
	})
}

// spoil changes all that a catalogue's lists have, and what stands in their spare room.
func spoil(s *api.State) {
	for i := range s.Snaps {
		for k := range s.Snaps[i].Chunks {
			s.Snaps[i].Chunks[k] = 77
		}
		_ = append(s.Snaps[i].Chunks, 77)
		s.Snaps[i].ID, s.Snaps[i].Tag = 77, "spoilt"
	}
	for i := range s.Sess {
		s.Sess[i] = api.Sess{Client: 77}
	}
	for i := range s.Opens {
		s.Opens[i] = api.Open{Set: 77}
	}
	_ = append(s.Sess, api.Sess{Client: 77})
	_ = append(s.Opens, api.Open{Set: 77})
	_ = append(s.Snaps, api.Snap{ID: 77})
}

func TestR7_WhatIsAnsweredIsTheCallersOwn(t *testing.T) {
	for _, do := range []func(api.State, api.Command) (api.State, api.Reply){apply.Do, apply.Act} {
		for _, s := range append(states(), wrong()...) {
			for kind := 0; kind <= 13; kind++ {
				c := good[kind]
				c.Chunks = slices.Clone(c.Chunks)
				before := spelt(s) + fmt.Sprint(c)
				after, _ := do(s, c)
				spoil(&after)
				if now := spelt(s) + fmt.Sprint(c); now != before {
					t.Errorf("%s became %s by a change of what was answered", before, now)
				}
				mine := state.Copy(s)
				after, _ = do(mine, c)
				was := spelt(after)
				spoil(&mine)
				for i := range c.Chunks {
					c.Chunks[i] = 77
				}
				if spelt(after) != was {
					t.Errorf("%s became %s by a change of what was handed in", was, spelt(after))
				}
			}
		}
	}
}

// TestR7_SpareRoom hands in lists with room behind their ends: what stands there stays.
func TestR7_SpareRoom(t *testing.T) {
	room := full()
	room.Sess = append(room.Sess, api.Sess{Client: 88}, api.Sess{Client: 89})
	room.Opens = append(room.Opens, api.Open{Set: 88}, api.Open{Set: 89})
	room.Snaps = append(room.Snaps, api.Snap{ID: 88}, api.Snap{ID: 89})
	chunks := []int{5, 9, 88, 89}
	before := spelt(room) + fmt.Sprint(chunks)
	s := full()
	s.Sess, s.Opens, s.Snaps = room.Sess[:4], room.Opens[:3], room.Snaps[:5]
	for kind := 0; kind <= 13; kind++ {
		for client := 1; client <= 8; client++ {
			for set := 0; set <= 8; set++ {
				c := with(good[kind], func(c *api.Command) { c.Client, c.Set = client, set })
				if kind == api.Commit {
					c.Chunks = chunks[:2]
				}
				if kind == api.Register {
					c.Set = 0
				}
				for _, do := range []func(api.State, api.Command) (api.State, api.Reply){apply.Do, apply.Act} {
					after, _ := do(s, c)
					spoil(&after)
					if now := spelt(room) + fmt.Sprint(chunks); now != before {
						t.Fatalf("%+v: %s became %s", c, before, now)
					}
				}
			}
		}
	}
}

func TestR6_CallsDoNotHangOnEachOther(t *testing.T) {
	for range 3 {
		s := full()
		first, r := apply.Do(s, good[api.Commit])
		second, again := apply.Do(s, good[api.Commit])
		if r != again || r != (api.Reply{N: 10}) || spelt(first) != spelt(second) {
			t.Errorf("%v, %v; %s, %s", r, again, spelt(first), spelt(second))
		}
		spoil(&first)
	}
}
