package forms_test

import (
	"bytes"
	"fmt"
	"math"
	"slices"
	"testing"

	"coracle/api"
	"coracle/forms"
	"coracle/tlv"
)

const (
	kinds     = 7
	versions  = 3
	mostBytes = 16384 // as P3.1 says it
)

// spec is one of P4.1's lists: its number, wire and since, and whether it is needed, or may be there many times.
func spec(num, wire, since int, how string) api.Spec {
	return api.Spec{Num: num, Wire: wire, Since: since, Need: how == "needed", Many: how == "many"}
}

// plain are P4.1's lists of all versions.
var plain = map[int][]api.Spec{
	1: {
		spec(1, 0, 1, "needed"),
		spec(2, 0, 1, ""), spec(3, 0, 1, ""), spec(4, 0, 1, ""), spec(5, 0, 1, ""), spec(6, 0, 1, ""),
		spec(7, 2, 1, ""),
		spec(8, 2, 3, ""),
	},
	2: {
		spec(1, 0, 1, "needed"), spec(2, 0, 1, "needed"),
		spec(3, 2, 1, "needed"),
		spec(4, 0, 2, ""),
		spec(5, 2, 3, ""),
	},
	3: {
		spec(1, 0, 1, "needed"), spec(2, 0, 1, "needed"),
	},
	4: {
		spec(1, 0, 1, "needed"),
		spec(2, 0, 1, ""), spec(3, 0, 1, ""), spec(4, 0, 1, ""),
	},
	5: {
		spec(1, 0, 1, "needed"), spec(2, 0, 1, "needed"),
		spec(3, 0, 1, ""),
		spec(4, 2, 1, "many"), spec(5, 2, 1, "many"), spec(6, 2, 1, "many"),
		spec(7, 0, 3, ""),
	},
	6: {
		spec(1, 0, 1, "needed"), spec(2, 0, 1, "needed"), spec(3, 0, 1, "needed"), spec(4, 0, 1, "needed"),
		spec(5, 0, 1, ""), spec(6, 0, 1, ""), spec(7, 0, 1, ""), spec(8, 0, 1, ""), spec(9, 0, 1, ""),
		spec(10, 2, 1, "many"),
	},
	7: {
		spec(1, 0, 1, "needed"),
		spec(2, 2, 1, ""),
	},
}

// tops are how many of these there are at each version.
var tops = map[int][versions]int{1: {7, 7, 8}, 2: {3, 4, 5}, 3: {2, 2, 2}, 4: {4, 4, 4}, 5: {6, 6, 7}, 6: {10, 10, 10}, 7: {2, 2, 2}}

// each calls do for each kind and version that there is.
func each(do func(kind, version int)) {
	for kind := 1; kind <= kinds; kind++ {
		for version := 1; version <= versions; version++ {
			do(kind, version)
		}
	}
}

// eachNone calls do for kinds and versions of which there are no specs.
func eachNone(do func(kind, version int)) {
	for _, kind := range []int{math.MinInt, -1, 0, 8, 9, 256 + 1, 1<<32 + 1, math.MaxInt} {
		for _, version := range []int{math.MinInt, -1, 0, 1, 2, 3, 4, math.MaxInt} {
			do(kind, version)
		}
	}
	for kind := 1; kind <= kinds; kind++ {
		for _, version := range []int{math.MinInt, -1, 0, 4, 5, 256 + 1, 1<<32 + 1, math.MaxInt} {
			do(kind, version)
		}
	}
}

// number and text are fields of the two kinds.
func number(num int, n uint64) api.Field { return api.Field{Num: num, N: n} }

func text(num int, s string) api.Field {
	return api.Field{Num: num, Wire: api.Bytes, B: []byte(s)}
}

// some is a field as a spec wants it.
func some(s api.Spec) api.Field {
	if s.Wire == api.Bytes {
		return text(s.Num, "\x00")
	}
	return number(s.Num, 1)
}

// full is a row of one field of each spec.
func full(l []api.Spec) []api.Field {
	var row []api.Field
	for _, s := range l {
		row = append(row, some(s))
	}
	return row
}

// plainCheck is P4.2's text, each of its sentences over the row.
func plainCheck(kind, version int, l []api.Field) api.Errno {
	if kind < 1 || kind > kinds || version < 1 || version > versions {
		return api.ErrArg
	}
	if e := tlv.May(l); e != api.OK {
		return e
	}
	specs := plain[kind][:tops[kind][version-1]]
	for i, f := range l {
		if f.Num > len(specs) {
			continue
		}
		s := specs[f.Num-1]
		switch {
		case f.Wire != s.Wire, s.Wire == 0 && f.N == 0, s.Wire == 2 && len(f.B) == 0:
			return api.ErrField
		case !s.Many && slices.ContainsFunc(l[:i], func(g api.Field) bool { return g.Num == f.Num }):
			return api.ErrField
		}
	}
	for _, s := range specs {
		if s.Need && !slices.ContainsFunc(l, func(f api.Field) bool { return f.Num == s.Num }) {
			return api.ErrField
		}
	}
	return api.OK
}

func checked(t *testing.T, kind, version int, l []api.Field, want api.Errno) {
	t.Helper()
	if e := forms.Check(kind, version, l); e != want {
		row := fmt.Sprint(l)
		t.Errorf("Check(%d, %d, %s) = %d; want %d", kind, version, row[:min(len(row), 200)], e, want)
	}
}

func TestP4_1_Specs(t *testing.T) {
	each(func(kind, version int) {
		want := plain[kind][:tops[kind][version-1]]
		if l := forms.Specs(kind, version); !slices.Equal(l, want) {
			t.Errorf("Specs(%d, %d) = %v; want %v", kind, version, l, want)
		}
	})
}

func TestP4_1_SpecsByNames(t *testing.T) {
	for kind, want := range map[int]int{api.FormCommand: 8, api.FormSnap: 5, api.FormOpen: 2, api.FormSess: 4, api.FormState: 7, api.FormLetter: 10, api.FormEntry: 2} {
		if l := forms.Specs(kind, api.Versions); len(l) != want {
			t.Errorf("Specs(%d) = %v; want %d", kind, l, want)
		}
	}
	if s := forms.Specs(api.FormSnap, 2)[3]; s != (api.Spec{Num: 4, Wire: api.Number, Since: 2}) {
		t.Errorf("whether a snapshot is held: %v", s)
	}
	if s := forms.Specs(api.FormLetter, 1)[9]; s != (api.Spec{Num: 10, Wire: api.Bytes, Since: 1, Many: true}) {
		t.Errorf("a letter's entries: %v", s)
	}
}

func TestP4_1_SpecsOfWhatIsNone(t *testing.T) {
	eachNone(func(kind, version int) {
		if l := forms.Specs(kind, version); len(l) != 0 {
			t.Errorf("Specs(%d, %d) = %v", kind, version, l)
		}
	})
}

func TestP4_1_Top(t *testing.T) {
	each(func(kind, version int) {
		if top, want := forms.Top(kind, version), tops[kind][version-1]; top != want {
			t.Errorf("Top(%d, %d) = %d; want %d", kind, version, top, want)
		}
	})
	eachNone(func(kind, version int) {
		if top := forms.Top(kind, version); top != 0 {
			t.Errorf("Top(%d, %d) = %d", kind, version, top)
		}
	})
}

func TestP4_2_RecordsThatMayBe(t *testing.T) {
	for _, c := range []struct {
		kind, version int
		l             []api.Field
	}{
		{api.FormCommand, 1, []api.Field{number(1, 8), number(6, 2)}},
		{api.FormCommand, 3, []api.Field{number(1, 11), text(8, "monday")}},
		{api.FormSnap, 1, []api.Field{number(1, 1), number(2, 1), text(3, "\x01")}},
		{api.FormSnap, 3, []api.Field{number(1, math.MaxUint64), number(2, 1), text(3, "\x00"), number(4, 7), text(5, "a")}},
		{api.FormOpen, 1, []api.Field{number(1, 1), number(2, 1)}},
		{api.FormSess, 2, []api.Field{number(1, 1)}},
		{api.FormSess, 2, []api.Field{number(1, 1), number(4, 9)}},
		{api.FormState, 1, []api.Field{number(1, 1), number(2, 1)}},
		{api.FormState, 3, []api.Field{number(1, 1), number(2, 1), text(4, "b"), text(4, "a"), text(4, "a"), text(6, "c"), text(6, "c"), number(7, 1)}},
		{api.FormLetter, 1, []api.Field{number(1, 1), number(2, 1), number(3, 1), number(4, 1)}},
		{api.FormLetter, 1, []api.Field{number(1, 1), number(2, 1), number(3, 1), number(4, 1), text(10, "a"), text(10, "a")}},
		{api.FormEntry, 3, []api.Field{number(1, 1)}},
		{api.FormEntry, 3, []api.Field{{Num: 1, N: 1, B: []byte{}}, text(2, "a")}},
	} {
		checked(t, c.kind, c.version, c.l, api.OK)
	}
	each(func(kind, version int) {
		checked(t, kind, version, full(plain[kind][:tops[kind][version-1]]), api.OK)
	})
}

func TestP4_2_NoKindOrVersion(t *testing.T) {
	eachNone(func(kind, version int) {
		for _, l := range [][]api.Field{
			nil,
			full(plain[api.FormOpen]),
			full(plain[api.FormState]),
			// Told ahead of what is wrong of the row.
			{{Num: 0}},
			{number(2, 1), number(1, 1)},
			{{Num: 1, Wire: api.Bytes, B: make([]byte, mostBytes)}},
		} {
			checked(t, kind, version, l, api.ErrArg)
		}
	})
}

func TestP4_2_RowsThatMayNotBe(t *testing.T) {
	each(func(kind, version int) {
		for _, c := range []struct {
			l []api.Field
			e api.Errno
		}{
			{[]api.Field{{Num: 0, N: 1}}, api.ErrArg},
			{[]api.Field{{Num: -1, N: 1}}, api.ErrArg},
			{[]api.Field{{Num: 1001, N: 1}}, api.ErrArg},
			{[]api.Field{{Num: 1, Wire: 1, N: 1}}, api.ErrArg},
			{[]api.Field{{Num: 1, N: 1, B: []byte{1}}}, api.ErrArg},
			{[]api.Field{{Num: 1, Wire: api.Bytes, N: 1}}, api.ErrArg},
			{[]api.Field{number(2, 1), number(1, 1)}, api.ErrOrder},
			// A number twice is no row, whatever the record.
			{[]api.Field{number(1, 1), number(1, 1)}, api.ErrOrder},
			{[]api.Field{number(1, 1), text(1, "a")}, api.ErrOrder},
			{[]api.Field{{Num: 1, Wire: api.Bytes, B: make([]byte, mostBytes+1)}}, api.ErrBig},
			{[]api.Field{{Num: 10, Wire: api.Bytes, B: make([]byte, mostBytes)}}, api.ErrBig},
		} {
			checked(t, kind, version, c.l, c.e)
		}
		// Told ahead of what is wrong of the record, and of fields of other versions, too.
		l := []api.Field{number(1, 0), number(20, 0), number(19, 0)}
		checked(t, kind, version, l, api.ErrOrder)
		l = append(full(plain[kind]), api.Field{Num: 1000, Wire: 1})
		checked(t, kind, version, l, api.ErrArg)
		l = append(full(plain[kind]), api.Field{Num: 1000, Wire: api.Bytes, B: make([]byte, mostBytes)})
		checked(t, kind, version, l, api.ErrBig)
	})
}

// TestP4_2_EachFieldOfEachRecord turns one field of a full row, in each of the ways that P4.2 names.
func TestP4_2_EachFieldOfEachRecord(t *testing.T) {
	each(func(kind, version int) {
		specs := plain[kind][:tops[kind][version-1]]
		for at, s := range specs {
			with := func(l ...api.Field) []api.Field {
				row := full(specs)
				return slices.Concat(row[:at], l, row[at+1:])
			}
			missing, again := api.OK, api.ErrField
			if s.Need {
				missing = api.ErrField
			}
			if s.Many {
				again = api.OK
			}
			checked(t, kind, version, with(), missing)
			checked(t, kind, version, with(some(s)), api.OK)
			checked(t, kind, version, with(number(s.Num, 0)), api.ErrField)
			checked(t, kind, version, with(text(s.Num, "")), api.ErrField)
			checked(t, kind, version, with(api.Field{Num: s.Num, Wire: api.Bytes}), api.ErrField)
			if s.Wire == api.Number {
				checked(t, kind, version, with(text(s.Num, "a")), api.ErrField)
				checked(t, kind, version, with(text(s.Num, "a"), text(s.Num, "a")), api.ErrField)
				checked(t, kind, version, with(number(s.Num, math.MaxUint64)), api.OK)
				continue
			}
			checked(t, kind, version, with(number(s.Num, 1)), api.ErrField)
			checked(t, kind, version, with(text(s.Num, "ab"), text(s.Num, "a")), again)
			checked(t, kind, version, with(text(s.Num, "a"), text(s.Num, "a"), text(s.Num, "a")), again)
			checked(t, kind, version, with(text(s.Num, "a"), text(s.Num, "")), api.ErrField)
			checked(t, kind, version, with(text(s.Num, ""), text(s.Num, "a")), api.ErrField)
		}
	})
}

func TestP4_2_FieldsAboveTopAreNotLookedAt(t *testing.T) {
	each(func(kind, version int) {
		top := tops[kind][version-1]
		row := full(plain[kind][:top])
		for _, num := range []int{top + 1, top + 2, 11, 999, 1000} {
			for _, rest := range [][]api.Field{
				{number(num, 0)},
				{number(num, 1)},
				{text(num, "")},
				{text(num, "a")},
				{text(num, "a"), text(num, ""), text(num, "a")},
			} {
				checked(t, kind, version, slices.Concat(row, rest), api.OK)
				checked(t, kind, version, slices.Concat(row[1:], rest), api.ErrField)
			}
		}
		// They stand in for none that is needed.
		checked(t, kind, version, []api.Field{number(1000, 1)}, api.ErrField)
		checked(t, kind, version, nil, api.ErrField)
		checked(t, kind, version, []api.Field{}, api.ErrField)
	})
}

// TestP4_2_AllShortRows holds Check against P4.2's text, of all rows of up to three fields of a menu, behind those of a record.
func TestP4_2_AllShortRows(t *testing.T) {
	menu := []api.Field{
		number(1, 1), number(2, 1), number(2, 0), number(4, 1), number(8, 7), number(11, 0), number(0, 1),
		text(1, "a"), text(2, "a"), text(2, ""), text(3, "a"), text(5, "a"), text(8, "a"), text(10, ""),
		{Num: 5, Wire: 3},
	}
	each(func(kind, version int) {
		for _, f := range menu {
			for _, g := range menu {
				for _, h := range menu {
					for _, l := range [][]api.Field{{f}, {f, g}, {f, g, h}} {
						checked(t, kind, version, l, plainCheck(kind, version, l))
						l = append(full(plain[kind][:1]), l...)
						checked(t, kind, version, l, plainCheck(kind, version, l))
					}
				}
			}
		}
	})
}

func TestP4_2_ManyFields(t *testing.T) {
	l := []api.Field{number(1, 1), number(2, 1)}
	for range 5000 {
		l = append(l, text(5, "a"))
	}
	checked(t, api.FormState, 1, l, api.OK)
	checked(t, api.FormOpen, 1, l, api.OK)
	checked(t, api.FormSnap, 3, l, api.ErrField)
	checked(t, api.FormState, 1, append(l, text(5, "")), api.ErrField)
	for range 500 {
		l = append(l, text(5, "a"))
	}
	checked(t, api.FormState, 1, l, api.ErrBig)
}

func TestP4_3_WhatIsThereStays(t *testing.T) {
	each(func(kind, version int) {
		less, more := forms.Specs(kind, version), forms.Specs(kind, min(version+1, versions))
		if len(more) < len(less) || !slices.Equal(less, more[:len(less)]) {
			t.Fatalf("Specs(%d): %v at %d, %v at the next version", kind, less, version, more)
		}
		for _, s := range more[len(less):] {
			if s.Num <= forms.Top(kind, version) || s.Since != version+1 || s.Need {
				t.Errorf("a field that is new behind version %d of kind %d: %v", version, kind, s)
			}
		}
		// So a lesser version takes what was laid down at a greater one.
		row := full(forms.Specs(kind, versions))
		checked(t, kind, version, row, api.OK)
		for last := version; last <= versions; last++ {
			checked(t, kind, last, full(less), api.OK)
		}
	})
}

func TestR7_WhatIsAnsweredIsTheCallersOwn(t *testing.T) {
	each(func(kind, version int) {
		want := plain[kind][:tops[kind][version-1]]
		l := forms.Specs(kind, version)
		room := l[:cap(l)]
		for i := range room {
			room[i] = api.Spec{Num: 99, Wire: 1}
		}
		if again := forms.Specs(kind, version); !slices.Equal(again, want) {
			t.Errorf("Specs(%d, %d), changed by a caller: %v", kind, version, again)
		}
		checked(t, kind, version, full(want), api.OK)
	})
}

func TestR7_WhatIsHandedInIsNotChanged(t *testing.T) {
	l := []api.Field{number(1, 1), number(2, 1), text(3, "ab"), text(4, "c"), text(4, "d")}
	room := append(l, text(9, "room"))
	want := fmt.Sprint(room)
	each(func(kind, version int) { forms.Check(kind, version, l) })
	if got := fmt.Sprint(room); got != want {
		t.Errorf("%s became %s", want, got)
	}
}

// What a call answers hangs on its own row, not on what was counted ahead.
func TestR6_CallsDoNotHangOnEachOther(t *testing.T) {
	l := full(plain[api.FormSnap])
	for range 3 {
		checked(t, api.FormSnap, 3, l, api.OK)
		checked(t, api.FormSnap, 3, l[1:], api.ErrField)
		checked(t, api.FormSnap, 1, l, api.OK)
		checked(t, api.FormEntry, 1, l, api.ErrField)
	}
}

func FuzzP4_2(f *testing.F) {
	f.Add(2, 3, []byte("\x08\x01\x10\x01\x1a\x01\x01\x20\x01\x2a\x01a"))
	f.Add(5, 1, []byte("\x08\x01\x10\x01\x22\x02\x08\x01\x22\x02\x08\x02\x38\x05"))
	f.Add(7, 2, []byte("\x08\x01\x12\x00"))
	f.Fuzz(func(t *testing.T, kind, version int, b []byte) {
		l, e := tlv.Take(b)
		if e != api.OK {
			return
		}
		for _, row := range [][]api.Field{l, append(full(plain[kind]), l...)} {
			checked(t, kind, version, row, plainCheck(kind, version, row))
		}
		if again, _ := tlv.Put(l); !bytes.Equal(again, b) {
			t.Errorf("% x became % x", b, again)
		}
	})
}
