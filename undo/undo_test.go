package undo

import (
	"math"
	"math/rand"
	"reflect"
	"slices"
	"testing"

	"podesta/api"
	"podesta/cube"
	"podesta/lapse"
	"podesta/mods"
	"podesta/rule"
)

// vlan is the cube of the headers with this VLAN.
func vlan(v uint64) api.Cube {
	c, e := cube.With(cube.All(), api.Vlan, v, 12)
	if e != api.OK {
		panic(e)
	}
	return c
}

// out is a list of one action.
func out(port int) []api.Act {
	return []api.Act{{Kind: api.Out, Port: port}}
}

// counted is a rule in which every number is other than zero.
func counted(match api.Cube, prio, owner int) api.Rule {
	return api.Rule{Match: match, Prio: prio, Owner: owner, Acts: out(1), Idle: 110, Hard: 120, Hits: 14, Quiet: 15, Age: 16}
}

// table is five rules of two Owners, in order.
func table() []api.Rule {
	return []api.Rule{
		counted(vlan(5), 9, 3), counted(vlan(6), 9, 4), counted(vlan(5), 7, 3), counted(cube.All(), 5, 3), counted(vlan(7), 5, 4),
	}
}

// pick is the rules of list with these indices, in this order.
func pick(list []api.Rule, at ...int) []api.Rule {
	var out []api.Rule
	for _, i := range at {
		out = append(out, list[i])
	}
	return out
}

// with is a copy of list in which the rule with this index is changed.
func with(list []api.Rule, at int, put func(*api.Rule)) []api.Rule {
	out := rule.Copy(list)
	put(&out[at])
	return out
}

// same complains of a list that is not as it should be.
func same(t *testing.T, what string, got, want []api.Rule) {
	t.Helper()
	if !rule.Same(got, want) {
		t.Errorf("%s: %+v, not %+v", what, got, want)
	}
}

// differ complains unless this is the Patch of Diff.
func differ(t *testing.T, what string, before, after, gone, added []api.Rule) {
	t.Helper()
	p := Diff(before, after)
	same(t, what+": Gone", p.Gone, gone)
	same(t, what+": New", p.New, added)
}

// way is Back or Forth.
type way struct {
	name  string
	call  func([]api.Rule, Patch) ([]api.Rule, api.Errno)
	patch func(out, in []api.Rule) Patch // the Patch with which this way takes the rules of out and puts those of in
}

// ways is both of them, so that each promise is asked of each.
func ways() []way {
	return []way{
		{"Back", Back, func(out, in []api.Rule) Patch { return Patch{Gone: in, New: out} }},
		{"Forth", Forth, func(out, in []api.Rule) Patch { return Patch{Gone: out, New: in} }},
	}
}

// swapped complains unless both ways succeed and have this result.
func swapped(t *testing.T, what string, list, out, in, want []api.Rule) {
	t.Helper()
	for _, w := range ways() {
		got, e := w.call(list, w.patch(out, in))
		if e != api.OK {
			t.Errorf("%s, %s: error %d", w.name, what, e)
		}
		same(t, w.name+", "+what, got, want)
		if !rule.Table(got) {
			t.Errorf("%s, %s: no table: %+v", w.name, what, got)
		}
	}
}

// refused complains unless both ways have this error and nothing beside it.
func refused(t *testing.T, what string, list, out, in []api.Rule, want api.Errno) {
	t.Helper()
	for _, w := range ways() {
		if got, e := w.call(list, w.patch(out, in)); e != want || len(got) != 0 {
			t.Errorf("%s, %s: %+v and error %d, not %d", w.name, what, got, e, want)
		}
	}
}

// P8.2: the chapter's example: Back with the Patch of Inverse returns the original table.
func TestExample(t *testing.T) {
	after, p, e := Inverse(table(), api.Mod{Kind: api.Delete, Owner: 3}, 9)
	if e != api.OK {
		t.Fatalf("error %d", e)
	}
	same(t, "after", after, pick(table(), 1, 4))
	back, e := Back(after, p)
	if e != api.OK {
		t.Fatalf("error %d", e)
	}
	same(t, "back", back, table())
}

// P8.1: tables that are equal, that share nothing, some rules, all but one.
func TestDiff(t *testing.T) {
	l := table()
	for _, x := range []struct {
		name          string
		before, after []int
		gone, added   []int
	}{
		{"equal", []int{0, 1, 2, 3, 4}, []int{0, 1, 2, 3, 4}, nil, nil},
		{"nothing shared", []int{0, 2, 4}, []int{1, 3}, []int{0, 2, 4}, []int{1, 3}},
		{"nothing shared, one after the other", []int{0, 1}, []int{2, 3, 4}, []int{0, 1}, []int{2, 3, 4}},
		{"some shared", []int{0, 1, 3}, []int{1, 2, 3, 4}, []int{0}, []int{2, 4}},
		{"one shared", []int{0, 2, 3}, []int{1, 2, 4}, []int{0, 3}, []int{1, 4}},
		{"the first gone", []int{0, 1, 2, 3, 4}, []int{1, 2, 3, 4}, []int{0}, nil},
		{"one gone", []int{0, 1, 2, 3, 4}, []int{0, 1, 3, 4}, []int{2}, nil},
		{"the last gone", []int{0, 1, 2, 3, 4}, []int{0, 1, 2, 3}, []int{4}, nil},
		{"the first new", []int{1, 2, 3, 4}, []int{0, 1, 2, 3, 4}, nil, []int{0}},
		{"one new", []int{0, 1, 2, 4}, []int{0, 1, 2, 3, 4}, nil, []int{3}},
		{"the last new", []int{0, 1, 2, 3}, []int{0, 1, 2, 3, 4}, nil, []int{4}},
		{"one each", []int{0, 1, 2, 3}, []int{0, 1, 2, 4}, []int{3}, []int{4}},
		{"all gone", []int{0, 1, 2, 3, 4}, nil, []int{0, 1, 2, 3, 4}, nil},
		{"all new", nil, []int{0, 1, 2, 3, 4}, nil, []int{0, 1, 2, 3, 4}},
		{"nothing at all", nil, nil, nil, nil},
	} {
		differ(t, x.name, pick(l, x.before...), pick(l, x.after...), pick(l, x.gone...), pick(l, x.added...))
	}
}

// variants is changes of a rule counted that leave the key as it is, by name: most of a single field, one of nothing.
func variants() map[string]func(*api.Rule) {
	return map[string]func(*api.Rule){
		"nothing":       func(r *api.Rule) {},
		"no Acts":       func(r *api.Rule) { r.Acts = nil },
		"a port":        func(r *api.Rule) { r.Acts = out(2) },
		"one Act more":  func(r *api.Rule) { r.Acts = append(out(1), api.Act{Kind: api.Tell}) },
		"another order": func(r *api.Rule) { r.Acts = append([]api.Act{{Kind: api.Tell}}, out(1)...) },
		"a value":       func(r *api.Rule) { r.Acts = []api.Act{{Kind: api.Set, Field: api.Vlan, Value: 1}} },
		"a field":       func(r *api.Rule) { r.Acts = []api.Act{{Kind: api.Set, Field: api.Pcp, Value: 1}} },
		"Idle":          func(r *api.Rule) { r.Idle++ },
		"no Idle":       func(r *api.Rule) { r.Idle = 0 },
		"Hard":          func(r *api.Rule) { r.Hard++ },
		"no Hard":       func(r *api.Rule) { r.Hard = 0 },
		"Owner":         func(r *api.Rule) { r.Owner = 255 },
		"no Owner":      func(r *api.Rule) { r.Owner = 0 },
		"Hits":          func(r *api.Rule) { r.Hits++ },
		"no Hits":       func(r *api.Rule) { r.Hits = 0 },
		"Quiet":         func(r *api.Rule) { r.Quiet++ },
		"no Quiet":      func(r *api.Rule) { r.Quiet = 0 },
		"Age":           func(r *api.Rule) { r.Age++ },
		"no Age":        func(r *api.Rule) { r.Age = 0 },
		"great counts":  func(r *api.Rule) { r.Hits, r.Quiet, r.Age = math.MaxInt, 1<<62, 1<<32 },
	}
}

// P8.1: rules with the same key that differ in one field are different rules: one is gone, the other one is new.
func TestDiffOneField(t *testing.T) {
	for at, r := range table() {
		for a, putA := range variants() {
			for b, putB := range variants() {
				before, after := with(table(), at, putA), with(table(), at, putB)
				if a == b {
					differ(t, a, before, after, nil, nil)
					continue
				}
				differ(t, a+" and "+b, before, after, before[at:at+1], after[at:at+1])
				if !rule.Key(before[at], r) || !rule.Key(after[at], r) {
					t.Fatalf("%s or %s changes the key", a, b)
				}
			}
		}
	}
}

// P8.1: rules that differ in the key alone, by the least that they can.
func TestDiffKey(t *testing.T) {
	narrow, e := cube.With(vlan(6), api.DstPort, 1, 12)
	if e != api.OK {
		t.Fatal(e)
	}
	for _, r := range []api.Rule{counted(vlan(6), 8, 4), counted(vlan(6), 10, 4), counted(vlan(7), 9, 4), counted(narrow, 9, 4), counted(cube.All(), 9, 4)} {
		before := table()
		after := rule.Sort(append(pick(before, 0, 2, 3, 4), r))
		differ(t, "another key", before, after, before[1:2], []api.Rule{r})
	}
}

// P8.1: nil and empty Acts are equal, and so are nil and empty lists.
func TestDiffNothing(t *testing.T) {
	lists := [][]api.Rule{nil, {}, table()[:0]}
	for _, a := range lists {
		for _, b := range lists {
			differ(t, "nothing", a, b, nil, nil)
		}
		differ(t, "all gone", table(), a, table(), nil)
		differ(t, "all new", a, table(), nil, table())
	}
	acts := [][]api.Act{nil, {}, out(1)[:0]}
	for _, a := range acts {
		for _, b := range acts {
			differ(t, "no Acts", []api.Rule{{Prio: 1, Acts: a}}, []api.Rule{{Prio: 1, Acts: b}}, nil, nil)
		}
	}
}

// P8.1: many rules, more than a unit holds: Gone and New are in the order of their tables.
func TestDiffOrder(t *testing.T) {
	var all []api.Rule
	for n := range 400 {
		all = append(all, counted(vlan(uint64(n%40)), n/40, n%4))
	}
	all = rule.Sort(all)
	var before, after, gone, added []api.Rule
	for n, r := range all {
		switch n % 5 {
		case 0:
			before, gone = append(before, r), append(gone, r)
		case 1:
			after, added = append(after, r), append(added, r)
		case 2:
			s := r
			s.Hits++
			before, gone = append(before, r), append(gone, r)
			after, added = append(after, s), append(added, s)
		case 3:
			before, after = append(before, r), append(after, r)
		}
	}
	differ(t, "many", before, after, gone, added)
	differ(t, "many, the other way round", after, before, added, gone)
	swapped(t, "many", before, gone, added, after)
	swapped(t, "many, the other way round", after, added, gone, before)
}

// badMatch is a cube that is not sound.
func badMatch() api.Cube {
	return api.Cube{Value: api.Head{api.Vlan: 1}}
}

// notTables is lists that are no tables.
func notTables() map[string][]api.Rule {
	l := table()
	out := map[string][]api.Rule{
		"not sorted by Prio":           pick(l, 2, 0),
		"not sorted by Match":          pick(l, 1, 0),
		"the last two not sorted":      pick(l, 0, 1, 2, 4, 3),
		"the first two not sorted":     pick(l, 1, 0, 2, 3, 4),
		"all in the wrong order":       pick(l, 4, 3, 2, 1, 0),
		"the same rule twice":          pick(l, 0, 0),
		"the last rule twice":          pick(l, 0, 1, 4, 4),
		"the same key, another Owner":  {l[0], counted(vlan(5), 9, 4)},
		"the same key, other counts":   append(with(l[:1], 0, func(r *api.Rule) { r.Hits++ }), l[0]),
		"the same key at the very end": append(table(), counted(vlan(7), 5, 3)),
	}
	for name, spoilt := range map[string]api.Rule{
		"Prio": {Prio: -1}, "great Prio": {Prio: 65536}, "Owner": {Owner: 256}, "negative Owner": {Owner: -1},
		"Hits": {Hits: -1}, "Quiet": {Quiet: -1}, "Age": {Age: math.MinInt},
		"Idle": {Idle: -1}, "Hard": {Hard: 1<<20 + 1}, "Acts": {Acts: []api.Act{{}}}, "Match": {Match: badMatch()},
	} {
		out["only a rule with a bad "+name] = []api.Rule{spoilt}
		out["last a rule with a bad "+name] = append(table(), spoilt)
	}
	return out
}

// P8.1: Diff of lists of which the first, the second or both are no tables is empty.
func TestDiffNoTable(t *testing.T) {
	for name, bad := range notTables() {
		for _, list := range [][]api.Rule{nil, {}, table(), table()[:1], {{}}, rule.Sort(bad)} {
			differ(t, "first: "+name, bad, list, nil, nil)
			differ(t, "second: "+name, list, bad, nil, nil)
		}
		differ(t, "the same: "+name, bad, bad, nil, nil)
		for other, worse := range notTables() {
			differ(t, "both: "+name+" and "+other, bad, worse, nil, nil)
		}
	}
}

// P8.1: Back and Forth with the Patch of Diff lead from each table to the other one, and again.
func TestBackAndForth(t *testing.T) {
	l := table()
	tables := [][]api.Rule{
		nil, l, pick(l, 0, 2, 4), pick(l, 1, 3), pick(l, 2), pick(l, 0, 1, 2, 3),
		with(l, 2, func(r *api.Rule) { r.Hits++ }), with(l[:3], 0, func(r *api.Rule) { r.Acts, r.Owner, r.Age = nil, 4, 0 }),
		{counted(cube.All(), 65535, 255)}, {{}},
	}
	for i, before := range tables {
		for j, after := range tables {
			p := Diff(before, after)
			if (len(p.Gone)+len(p.New) == 0) != (i == j) {
				t.Errorf("tables %d and %d: %+v", i, j, p)
			}
			there, back := before, after
			for range 3 {
				var e, f api.Errno
				there, e = Forth(there, p)
				back, f = Back(back, p)
				if e != api.OK || f != api.OK {
					t.Fatalf("tables %d and %d: errors %d and %d", i, j, e, f)
				}
				same(t, "Forth", there, after)
				same(t, "Back", back, before)
				there, back = back, there
			}
			swapped(t, "a Patch of Diff", before, p.Gone, p.New, after)
		}
	}
}

// P8.1: an empty Patch leads from each table to an equal one, nil or empty.
func TestEmptyPatch(t *testing.T) {
	nothing := [][]api.Rule{nil, {}, table()[:0]}
	for _, a := range nothing {
		for _, b := range nothing {
			for _, list := range [][]api.Rule{nil, {}, table()[:0], table(), table()[2:], {{}}} {
				swapped(t, "an empty Patch", list, a, b, list)
			}
			for name, bad := range notTables() {
				refused(t, "an empty Patch and "+name, bad, a, b, api.ErrForm)
			}
		}
	}
}

// P8.1: the rules of one half take their places in the table, ahead of all, between, behind all; those of the other half leave theirs.
func TestPlaces(t *testing.T) {
	l := table()
	for mask := range 1 << len(l) {
		var some, others []api.Rule
		for i, r := range l {
			if mask>>i&1 == 1 {
				some = append(some, r)
			} else {
				others = append(others, r)
			}
		}
		swapped(t, "rules in", some, nil, others, l)
		swapped(t, "rules out", l, some, nil, others)
		swapped(t, "rules in and out", some, some, others, others)
	}
}

// P8.1: ErrNone if a rule that should go is not there, or is there with another field, be it only a count.
func TestNone(t *testing.T) {
	l := table()
	for _, r := range []api.Rule{counted(vlan(5), 8, 3), counted(vlan(5), 10, 3), counted(vlan(5), 0, 3), counted(vlan(7), 9, 3), counted(cube.All(), 9, 3), counted(vlan(8), 5, 3), {}} {
		refused(t, "not there", l, []api.Rule{r}, nil, api.ErrNone)
		refused(t, "not there beside one that is", l, rule.Sort(append(pick(l, 2), r)), nil, api.ErrNone)
		refused(t, "not there beside all that are", l, rule.Sort(append(table(), r)), nil, api.ErrNone)
		refused(t, "not there, and comes in", l, []api.Rule{r}, []api.Rule{r}, api.ErrNone)
		for _, nothing := range [][]api.Rule{nil, {}} {
			refused(t, "not there in nothing", nothing, []api.Rule{r}, nil, api.ErrNone)
		}
	}
	for at := range l {
		for name, put := range variants() {
			if name == "nothing" {
				continue
			}
			other := with(l, at, put)
			refused(t, "there with another "+name, l, other[at:at+1], nil, api.ErrNone)
			refused(t, "there with another "+name+", all go", l, other, nil, api.ErrNone)
			refused(t, "there with another "+name+", comes in as it is", l, other[at:at+1], l[at:at+1], api.ErrNone)
		}
		swapped(t, "there", l, l[at:at+1], nil, slices.Concat(l[:at], l[at+1:]))
	}
}

// P8.1: ErrThere if a rule that should come has the key of a rule that remains, whatever else they have.
func TestThere(t *testing.T) {
	l := table()
	for at := range l {
		others := slices.Concat(l[:at], l[at+1:])
		for name, put := range variants() {
			r := with(l, at, put)[at : at+1]
			refused(t, "there with "+name, l, nil, r, api.ErrThere)
			refused(t, "there alone with "+name, l[at:at+1], nil, r, api.ErrThere)
			refused(t, "there, and the others go, with "+name, l, others, r, api.ErrThere)
			refused(t, "there, and another one comes, with "+name, l, nil, rule.Sort(append(r, counted(vlan(9), 8, 1))), api.ErrThere)
			swapped(t, "the key goes: "+name, l, l[at:at+1], r, with(l, at, put))
			swapped(t, "everything goes: "+name, l, l, r, r)
			swapped(t, "only the key is there: "+name, l[at:at+1], l[at:at+1], r, r)
		}
	}
	refused(t, "everything comes twice", l, nil, l, api.ErrThere)
}

// P8.1: the same rule in Gone and New goes and comes: it must be there, and it stays.
func TestSameRuleInBoth(t *testing.T) {
	l := table()
	for at := range l {
		swapped(t, "one", l, l[at:at+1], l[at:at+1], l)
		swapped(t, "the first ones", l, l[:at], l[:at], l)
		refused(t, "one that is not there", slices.Concat(l[:at], l[at+1:]), l[at:at+1], l[at:at+1], api.ErrNone)
	}
	swapped(t, "all", l, l, l, l)
	swapped(t, "all, and one more", l[1:], l[1:], l, l)
	swapped(t, "all, and one less", l, l, l[1:], l[1:])
	refused(t, "all, of nothing", nil, l, l, api.ErrNone)
}

// P8.1: ErrForm if the list or one half of the Patch is no table, whatever else is wrong.
func TestNoTable(t *testing.T) {
	l := table()
	for name, bad := range notTables() {
		for _, x := range [][]api.Rule{nil, {}, l, pick(l, 0), pick(l, 4), {counted(vlan(9), 3, 3)}, rule.Sort(bad)} {
			for _, y := range [][]api.Rule{nil, l, pick(l, 0), {counted(vlan(9), 4, 3)}, bad} {
				refused(t, "the list: "+name, bad, x, y, api.ErrForm)
				refused(t, "what goes: "+name, x, bad, y, api.ErrForm)
				refused(t, "what comes: "+name, x, y, bad, api.ErrForm)
			}
		}
		refused(t, "all: "+name, bad, bad, bad, api.ErrForm)
	}
}

// P8.1, R2: of several errors the first one in the order of the document.
func TestErrorOrder(t *testing.T) {
	l := table()
	there, none, bad := pick(l, 3), []api.Rule{counted(vlan(9), 3, 3)}, pick(l, 2, 0)
	refused(t, "None ahead of There", l, none, there, api.ErrNone)
	refused(t, "None ahead of There, the same key", l, with(there, 0, func(r *api.Rule) { r.Hits++ }), there, api.ErrNone)
	refused(t, "Form of the list ahead of None", bad, none, nil, api.ErrForm)
	refused(t, "Form of the list ahead of There", bad, nil, pick(l, 0), api.ErrForm)
	refused(t, "Form of what goes ahead of None", nil, bad, nil, api.ErrForm)
	refused(t, "Form of what goes ahead of There", l, bad, there, api.ErrForm)
	refused(t, "Form of what comes ahead of None", l, none, bad, api.ErrForm)
	refused(t, "Form of what comes ahead of There", l, nil, bad, api.ErrForm)
	refused(t, "There", l, pick(l, 2), there, api.ErrThere)
	refused(t, "None", l, none, pick(l, 3, 4)[:0], api.ErrNone)
}

// P8.1: Back takes New out and puts Gone in, Forth takes Gone out and puts New in, and neither does both.
func TestDirections(t *testing.T) {
	l := table()
	p := Patch{Gone: pick(l, 1), New: pick(l, 2)}
	before, after := pick(l, 0, 1, 3), pick(l, 0, 2, 3)
	for _, x := range []struct {
		name string
		call func([]api.Rule, Patch) ([]api.Rule, api.Errno)
		list []api.Rule
		want []api.Rule
		e    api.Errno
	}{
		{"Forth", Forth, before, after, api.OK},
		{"Back", Back, after, before, api.OK},
		{"Forth from after", Forth, after, nil, api.ErrNone},
		{"Back from before", Back, before, nil, api.ErrNone},
		{"Forth with both", Forth, pick(l, 1, 2), nil, api.ErrThere},
		{"Back with both", Back, pick(l, 1, 2), nil, api.ErrThere},
	} {
		got, e := x.call(x.list, p)
		if e != x.e {
			t.Errorf("%s: error %d, not %d", x.name, e, x.e)
		}
		same(t, x.name, got, x.want)
	}
}

// inverted is the results of an Inverse that must succeed, and that both ways undo and do again.
func inverted(t *testing.T, list []api.Rule, m api.Mod, room int) ([]api.Rule, Patch) {
	t.Helper()
	after, p, e := Inverse(list, m, room)
	if e != api.OK {
		t.Fatalf("Inverse of %+v: error %d", m, e)
	}
	want, _ := mods.Apply(list, m, room)
	same(t, "Inverse", after, want)
	back, e := Back(after, p)
	if e != api.OK {
		t.Fatalf("Back after %+v: error %d", m, e)
	}
	same(t, "Back", back, list)
	forth, e := Forth(back, p)
	if e != api.OK {
		t.Fatalf("Forth after %+v: error %d", m, e)
	}
	same(t, "Forth", forth, after)
	return after, p
}

// P8.2: every Kind of change, touching no rule, one, several, all: the rules that are touched are Gone, with all counts, and the changed ones are New.
func TestInverse(t *testing.T) {
	l := table()
	for _, x := range []struct {
		name    string
		m       api.Mod
		touched []int
	}{
		{"Modify none", api.Mod{Kind: api.Modify, Owner: 5, Acts: out(6)}, nil},
		{"Modify one", api.Mod{Kind: api.Modify, Match: vlan(6), Owner: 4, Acts: out(6)}, []int{1}},
		{"Modify several", api.Mod{Kind: api.Modify, Match: vlan(5), Owner: 3, Acts: out(6)}, []int{0, 2}},
		{"Modify all of an Owner", api.Mod{Kind: api.Modify, Owner: 3, Acts: out(6)}, []int{0, 2, 3}},
		{"ModifyIt none", api.Mod{Kind: api.ModifyIt, Match: vlan(5), Prio: 8, Owner: 3, Acts: out(6)}, nil},
		{"ModifyIt one", api.Mod{Kind: api.ModifyIt, Prio: 5, Owner: 3}, []int{3}},
		{"Delete none", api.Mod{Kind: api.Delete, Match: vlan(7), Owner: 3}, nil},
		{"Delete one", api.Mod{Kind: api.Delete, Match: vlan(7), Owner: 4}, []int{4}},
		{"Delete several", api.Mod{Kind: api.Delete, Match: vlan(5), Owner: 3}, []int{0, 2}},
		{"Delete all of an Owner", api.Mod{Kind: api.Delete, Owner: 4}, []int{1, 4}},
		{"DeleteIt none", api.Mod{Kind: api.DeleteIt, Match: vlan(5), Prio: 9, Owner: 4}, nil},
		{"DeleteIt one", api.Mod{Kind: api.DeleteIt, Match: vlan(5), Prio: 9, Owner: 3}, []int{0}},
		{"Add for an old one", api.Mod{Kind: api.Add, Match: vlan(5), Prio: 7, Owner: 3, Acts: out(6), Idle: 1, Hard: 2}, []int{2}},
	} {
		var added []api.Rule
		for _, r := range pick(l, x.touched...) {
			switch x.m.Kind {
			case api.Add:
				added = append(added, api.Rule{Match: r.Match, Prio: r.Prio, Owner: r.Owner, Acts: out(6), Idle: 1, Hard: 2})
			case api.Modify, api.ModifyIt:
				r.Acts = x.m.Acts
				added = append(added, r)
			}
		}
		for _, room := range []int{math.MinInt, -1, 0, 5, 9, math.MaxInt} {
			after, p := inverted(t, l, x.m, room)
			same(t, x.name+": Gone", p.Gone, pick(l, x.touched...))
			same(t, x.name+": New", p.New, added)
			if len(x.touched) == 0 {
				same(t, x.name, after, l)
			}
		}
	}
}

// P8.2: every rule of a table touched at once.
func TestInverseOfAll(t *testing.T) {
	l := pick(table(), 0, 2, 3)
	after, p := inverted(t, l, api.Mod{Kind: api.Delete, Owner: 3}, 0)
	if len(after)+len(p.New) != 0 {
		t.Errorf("Delete: %+v and %+v", after, p)
	}
	same(t, "Delete", p.Gone, l)
	after, p = inverted(t, l, api.Mod{Kind: api.Modify, Owner: 3, Acts: out(6)}, 0)
	same(t, "Modify: Gone", p.Gone, l)
	same(t, "Modify: New", p.New, after)
}

// P8.2: an Add with a new key: nothing is gone, the rule is new with nothing counted, in whichever place.
func TestInverseOfAdd(t *testing.T) {
	for _, prio := range []int{0, 5, 6, 7, 8, 9, 10, api.MaxPrio} {
		m := api.Mod{Kind: api.Add, Match: vlan(8), Prio: prio, Owner: 8, Acts: out(6), Idle: 1, Hard: 2, Check: prio != 5}
		for _, list := range [][]api.Rule{nil, {}, table()} {
			after, p := inverted(t, list, m, len(list)+1)
			if len(after) != len(list)+1 || len(p.Gone) != 0 {
				t.Errorf("Prio %d: %+v and %+v", prio, after, p)
			}
			same(t, "New", p.New, []api.Rule{{Match: vlan(8), Prio: prio, Owner: 8, Acts: out(6), Idle: 1, Hard: 2}})
		}
	}
}

// P8.2: a change that touches rules but leaves them equal has an empty Patch.
func TestInverseWithoutEffect(t *testing.T) {
	fresh := []api.Rule{{Match: vlan(5), Prio: 9, Owner: 3, Acts: out(6), Idle: 1, Hard: 2}, {Prio: 5, Owner: 3}}
	for _, m := range []api.Mod{
		{Kind: api.Add, Match: vlan(5), Prio: 9, Owner: 3, Acts: out(6), Idle: 1, Hard: 2},
		{Kind: api.Add, Prio: 5, Owner: 3, Acts: []api.Act{}, Check: true},
		{Kind: api.Modify, Match: vlan(5), Owner: 3, Acts: out(6)},
		{Kind: api.ModifyIt, Prio: 5, Owner: 3, Acts: []api.Act{}},
	} {
		after, p := inverted(t, fresh, m, 0)
		same(t, "after", after, fresh)
		if len(p.Gone)+len(p.New) != 0 {
			t.Errorf("%+v: %+v", m, p)
		}
	}
	after, p := inverted(t, lapse.Hit(fresh, 0), api.Mod{Kind: api.Add, Match: vlan(5), Prio: 9, Owner: 3, Acts: out(6), Idle: 1, Hard: 2}, 0)
	same(t, "after a hit", after, fresh)
	same(t, "Gone after a hit", p.Gone, lapse.Hit(fresh, 0)[:1])
	same(t, "New after a hit", p.New, fresh[:1])
}

// P8.2: every error of Apply, with nothing beside it.
func TestInverseErrors(t *testing.T) {
	add := api.Mod{Kind: api.Add, Match: vlan(5), Prio: 9, Owner: 3}
	other := add
	other.Owner = 4
	overlap := api.Mod{Kind: api.Add, Match: vlan(6), Prio: 5, Owner: 3, Check: true}
	late := api.Mod{Kind: api.Add, Match: vlan(8), Prio: 9, Owner: 3}
	cases := []struct {
		name string
		list []api.Rule
		m    api.Mod
		room int
		want api.Errno
	}{
		{"another Owner", table(), other, 9, api.ErrOwner},
		{"another Owner, no room", table(), other, 0, api.ErrOwner},
		{"overlap", table(), overlap, 9, api.ErrOverlap},
		{"overlap, no room", table(), overlap, 5, api.ErrOverlap},
		{"full", table(), late, 5, api.ErrFull},
		{"no room", table(), late, 0, api.ErrFull},
		{"negative room", table(), late, -1, api.ErrFull},
		{"the least room", nil, late, math.MinInt, api.ErrFull},
		{"no room at all", nil, late, 0, api.ErrFull},
		{"no Kind", table(), api.Mod{}, 9, api.ErrForm},
		{"unknown Kind", table(), api.Mod{Kind: 6}, 9, api.ErrForm},
		{"Modify with Prio", table(), api.Mod{Kind: api.Modify, Prio: 1, Owner: 3}, 9, api.ErrForm},
		{"Delete with Acts", table(), api.Mod{Kind: api.Delete, Owner: 3, Acts: out(1)}, 9, api.ErrForm},
		{"ModifyIt with Check", table(), api.Mod{Kind: api.ModifyIt, Check: true}, 9, api.ErrForm},
		{"DeleteIt with Idle", table(), api.Mod{Kind: api.DeleteIt, Idle: 1}, 9, api.ErrForm},
		{"Add with a bad Match", table(), api.Mod{Kind: api.Add, Match: badMatch()}, 9, api.ErrForm},
		{"Add with bad Acts", nil, api.Mod{Kind: api.Add, Acts: []api.Act{{}}}, 9, api.ErrForm},
		{"negative Owner", nil, api.Mod{Kind: api.Delete, Owner: -1}, 9, api.ErrForm},
	}
	for name, bad := range notTables() {
		for kind := range 7 {
			x := cases[0]
			x.name, x.list, x.m, x.want = name, bad, api.Mod{Kind: kind, Owner: 3}, api.ErrForm
			cases = append(cases, x)
		}
	}
	for _, x := range cases {
		after, p, e := Inverse(x.list, x.m, x.room)
		if e != x.want || len(after)+len(p.Gone)+len(p.New) != 0 {
			t.Errorf("%s: %+v, %+v and error %d, not %d", x.name, after, p, e, x.want)
		}
		if _, f := mods.Apply(x.list, x.m, x.room); e != f {
			t.Errorf("%s: error %d, but that of Apply is %d", x.name, e, f)
		}
	}
}

// P8.2: nil and empty lists, with changes of every Kind.
func TestInverseOfNothing(t *testing.T) {
	for _, list := range [][]api.Rule{nil, {}, table()[:0]} {
		for _, kind := range []int{api.Modify, api.Delete, api.ModifyIt, api.DeleteIt} {
			if after, p := inverted(t, list, api.Mod{Kind: kind, Owner: 3}, 9); len(after)+len(p.Gone)+len(p.New) != 0 {
				t.Errorf("Kind %d: %+v and %+v", kind, after, p)
			}
		}
		after, p := inverted(t, list, api.Mod{Kind: api.Add, Owner: 3}, 1)
		same(t, "Add", after, []api.Rule{{Owner: 3}})
		same(t, "Add: Gone", p.Gone, nil)
		same(t, "Add: New", p.New, []api.Rule{{Owner: 3}})
	}
}

// P8.2: several changes, undone one by one in the reverse order and done again, with all counts.
func TestUndoOneByOne(t *testing.T) {
	now := table()
	tables := [][]api.Rule{now}
	var patches []Patch
	for _, m := range []api.Mod{
		{Kind: api.Modify, Owner: 3, Acts: out(6)},
		{Kind: api.Add, Match: vlan(8), Prio: 9, Owner: 3, Idle: 5, Check: true},
		{Kind: api.Add, Match: vlan(5), Prio: 9, Owner: 3, Hard: 5},
		{Kind: api.Delete, Match: vlan(5), Owner: 3},
		{Kind: api.Add, Match: vlan(5), Prio: 7, Owner: 4},
		{Kind: api.ModifyIt, Match: vlan(7), Prio: 5, Owner: 4},
		{Kind: api.DeleteIt, Match: vlan(8), Prio: 9, Owner: 3},
		{Kind: api.Delete, Owner: 5},
		{Kind: api.Delete, Owner: 4},
		{Kind: api.Delete, Owner: 3},
		{Kind: api.Add, Match: vlan(5), Prio: 9, Owner: 3, Acts: out(1), Idle: 110, Hard: 120},
	} {
		after, p := inverted(t, now, m, 9)
		now, patches, tables = after, append(patches, p), append(tables, after)
	}
	var e api.Errno
	for i := len(patches) - 1; i >= 0; i-- {
		if now, e = Back(now, patches[i]); e != api.OK {
			t.Fatalf("Back of change %d: error %d", i, e)
		}
		same(t, "back", now, tables[i])
	}
	same(t, "the start", now, table())
	for i, p := range patches {
		if now, e = Forth(now, p); e != api.OK {
			t.Fatalf("Forth of change %d: error %d", i, e)
		}
		same(t, "forth", now, tables[i+1])
	}
}

// P8.1: a rule that was hit or has aged since the change is not the one of the Patch.
func TestCountedSince(t *testing.T) {
	after, p := inverted(t, table(), api.Mod{Kind: api.ModifyIt, Match: vlan(5), Prio: 7, Owner: 3}, 9)
	older, _ := lapse.Tick(after, 1)
	for _, list := range [][]api.Rule{lapse.Hit(after, 2), older} {
		if got, e := Back(list, p); e != api.ErrNone || len(got) != 0 {
			t.Errorf("%+v and error %d", got, e)
		}
	}
	elsewhere := lapse.Hit(after, 0)
	got, e := Back(elsewhere, p)
	if e != api.OK {
		t.Errorf("a hit of another rule: error %d", e)
	}
	same(t, "a hit of another rule", got, lapse.Hit(table(), 0))
}

// equalAsWritten compares two rules field by field.
func equalAsWritten(a, b api.Rule) bool {
	return a.Match == b.Match && a.Prio == b.Prio && slices.Equal(a.Acts, b.Acts) && a.Idle == b.Idle && a.Hard == b.Hard &&
		a.Owner == b.Owner && a.Hits == b.Hits && a.Quiet == b.Quiet && a.Age == b.Age
}

// lessAsWritten is the rules of a that are not equal to a rule of b.
func lessAsWritten(a, b []api.Rule) []api.Rule {
	var out []api.Rule
	for _, r := range a {
		equal := false
		for _, s := range b {
			equal = equal || equalAsWritten(r, s)
		}
		if !equal {
			out = append(out, r)
		}
	}
	return out
}

// backAsWritten is the promise on Back; for Forth, Gone and New change places.
func backAsWritten(after []api.Rule, p Patch) ([]api.Rule, api.Errno) {
	if !rule.Table(after) || !rule.Table(p.Gone) || !rule.Table(p.New) {
		return nil, api.ErrForm
	}
	if len(lessAsWritten(p.New, after)) > 0 {
		return nil, api.ErrNone
	}
	left := lessAsWritten(after, p.New)
	for _, r := range p.Gone {
		for _, s := range left {
			if r.Match == s.Match && r.Prio == s.Prio {
				return nil, api.ErrThere
			}
		}
	}
	out := slices.Concat(left, p.Gone)
	slices.SortFunc(out, func(a, b api.Rule) int {
		if a.Prio != b.Prio {
			return b.Prio - a.Prio
		}
		return cube.Compare(a.Match, b.Match)
	})
	return out, api.OK
}

// anyRule is one of few rules, so that many have the same key and many are equal.
func anyRule(r *rand.Rand) api.Rule {
	x := counted(cube.All(), r.Intn(4), 3)
	if v := r.Intn(4); v > 0 {
		x.Match = vlan(uint64(v))
	}
	if r.Intn(4) == 0 {
		x.Hits++
	}
	return x
}

// anyTable is a table of such rules, or rarely a list that is none.
func anyTable(r *rand.Rand) []api.Rule {
	var list []api.Rule
	for range r.Intn(10) {
		list = append(list, anyRule(r))
	}
	if r.Intn(15) > 0 {
		list = rule.Sort(list)
	}
	return list
}

// anyHalf is a table like a half of a Patch for list: some of its rules, some with another count, rarely a rule more.
func anyHalf(r *rand.Rand, list []api.Rule) []api.Rule {
	var half []api.Rule
	for _, x := range list {
		if r.Intn(3) == 0 {
			x.Age += r.Intn(12) / 11
			half = append(half, x)
		}
	}
	if r.Intn(8) == 0 {
		half = rule.Sort(append(half, anyRule(r)))
	}
	return half
}

// P8.1: many tables and Patches: all functions do as written.
func TestAsWritten(t *testing.T) {
	r := rand.New(rand.NewSource(8))
	seen := map[api.Errno]int{}
	for range 40000 {
		a, b := anyTable(r), anyTable(r)
		var p Patch
		if rule.Table(a) && rule.Table(b) {
			p = Patch{Gone: lessAsWritten(a, b), New: lessAsWritten(b, a)}
		}
		differ(t, "as written", a, b, p.Gone, p.New)
		p = Patch{Gone: anyHalf(r, a), New: anyHalf(r, b)}
		if r.Intn(20) == 0 {
			p.Gone = anyTable(r)
		}
		want, wantE := backAsWritten(b, p)
		got, e := Back(b, p)
		if e != wantE || !rule.Same(got, want) {
			t.Fatalf("Back of %+v with %+v: %+v and %d, not %+v and %d", b, p, got, e, want, wantE)
		}
		seen[e]++
		want, wantE = backAsWritten(a, Patch{Gone: p.New, New: p.Gone})
		got, e = Forth(a, p)
		if e != wantE || !rule.Same(got, want) {
			t.Fatalf("Forth of %+v with %+v: %+v and %d, not %+v and %d", a, p, got, e, want, wantE)
		}
		seen[e]++
	}
	for _, e := range []api.Errno{api.OK, api.ErrForm, api.ErrNone, api.ErrThere} {
		if seen[e] < 1000 {
			t.Errorf("error %d is hardly tried: %d times", e, seen[e])
		}
	}
}

// P8.2: many changes in a row: each Patch is the Diff, and undoes its change.
func TestManyInverses(t *testing.T) {
	r := rand.New(rand.NewSource(88))
	seen := map[[2]int]int{}
	var now []api.Rule
	for range 20000 {
		x := anyRule(r)
		m := api.Mod{Kind: 1 + r.Intn(5), Match: x.Match, Prio: x.Prio, Owner: r.Intn(2)}
		switch m.Kind {
		case api.Modify, api.Delete:
			m.Prio = 0
		}
		if m.Kind != api.Delete && m.Kind != api.DeleteIt {
			m.Acts = out(1 + r.Intn(2))
		}
		after, e := mods.Apply(now, m, 12)
		got, p, f := Inverse(now, m, 12)
		if e != f || !rule.Same(got, after) {
			t.Fatalf("%+v of %+v: %+v and %d, not %+v and %d", m, now, got, f, after, e)
		}
		if e != api.OK {
			if len(p.Gone)+len(p.New) != 0 {
				t.Fatalf("%+v of %+v: %+v beside error %d", m, now, p, e)
			}
			continue
		}
		same(t, "Gone", p.Gone, lessAsWritten(now, after))
		same(t, "New", p.New, lessAsWritten(after, now))
		inverted(t, now, m, 12)
		seen[[2]int{m.Kind, min(len(p.Gone)+len(p.New), 3)}]++
		now = after
		if len(now) > 0 {
			now = lapse.Hit(now, r.Intn(len(now)))
		}
	}
	for _, x := range [][2]int{{api.Add, 1}, {api.Add, 2}, {api.Modify, 0}, {api.Modify, 2}, {api.Modify, 3}, {api.Delete, 0}, {api.Delete, 1}, {api.Delete, 3}, {api.ModifyIt, 2}, {api.DeleteIt, 1}} {
		if seen[x] < 20 {
			t.Errorf("Kind %d with %d rules in the Patch is hardly tried: %d times", x[0], x[1], seen[x])
		}
	}
}

// roomy is a list with the rules of l and with room behind it and behind each of their Acts.
func roomy(l []api.Rule) []api.Rule {
	list := slices.Concat(l, []api.Rule{counted(vlan(5), 4, 3), counted(vlan(5), 3, 3)})
	for i, r := range list {
		acts := slices.Concat(r.Acts, []api.Act{{Kind: api.Out, Port: 8}, {Kind: api.Out, Port: 9}})
		list[i].Acts = acts[:len(r.Acts)]
	}
	return list[:len(l)]
}

// kept is everything that a list reaches, its room included.
func kept(list []api.Rule) []api.Rule {
	out := slices.Clone(list[:cap(list)])
	for i := range out {
		out[i].Acts = slices.Clone(out[i].Acts[:cap(out[i].Acts)])
	}
	return out
}

// keptAll is everything that several lists reach.
func keptAll(lists [][]api.Rule) [][]api.Rule {
	var out [][]api.Rule
	for _, list := range lists {
		out = append(out, kept(list))
	}
	return out
}

// spoil overwrites a list and all its Acts, with what lies behind their ends.
func spoil(list []api.Rule) {
	list = list[:cap(list)]
	for i := range list {
		spoilActs(list[i].Acts)
		list[i] = api.Rule{Prio: -1}
	}
}

// spoilActs overwrites a list of actions, with what lies behind its end.
func spoilActs(acts []api.Act) {
	acts = acts[:cap(acts)]
	for i := range acts {
		acts[i] = api.Act{Kind: -1}
	}
}

// trial is one call of a function of this package: the lists that it gets, and the lists that it returns.
type trial struct {
	name string
	args [][]api.Rule
	call func(args [][]api.Rule) [][]api.Rule
}

// calls is calls of every function, with room behind all lists that they get, and with all sorts of results.
func calls() []trial {
	l := table()
	other := with(l, 2, func(r *api.Rule) { r.Hits++ })
	diff := func(args [][]api.Rule) [][]api.Rule {
		p := Diff(args[0], args[1])
		return [][]api.Rule{p.Gone, p.New}
	}
	var out []trial
	for _, a := range [][]api.Rule{l, other, pick(l, 0, 2, 4), pick(l, 1, 3), pick(l, 4, 0), nil} {
		for _, b := range [][]api.Rule{l, other, pick(l, 1, 2, 3), pick(l, 3, 1), nil} {
			out = append(out, trial{"Diff", [][]api.Rule{roomy(a), roomy(b)}, diff})
			for _, w := range ways() {
				for _, list := range [][]api.Rule{l, a, b} {
					swap := func(args [][]api.Rule) [][]api.Rule {
						got, _ := w.call(args[0], w.patch(args[1], args[2]))
						return [][]api.Rule{got}
					}
					out = append(out, trial{w.name, [][]api.Rule{roomy(list), roomy(a), roomy(b)}, swap})
				}
			}
		}
	}
	for _, m := range inverseMods() {
		// The Acts of the change are handed in as those of a rule, so that they are watched like a list.
		inverse := func(args [][]api.Rule) [][]api.Rule {
			m := m
			m.Acts = args[1][0].Acts
			after, p, _ := Inverse(args[0], m, 9)
			return [][]api.Rule{after, p.Gone, p.New}
		}
		out = append(out, trial{"Inverse", [][]api.Rule{roomy(l), roomy([]api.Rule{{Acts: m.Acts}})}, inverse})
	}
	return out
}

// inverseMods is changes of every Kind for the table, with all sorts of results.
func inverseMods() []api.Mod {
	return []api.Mod{
		{Kind: api.Add, Match: vlan(5), Prio: 7, Owner: 3, Acts: out(6)},
		{Kind: api.Add, Match: vlan(8), Prio: 7, Owner: 3, Acts: out(6)},
		{Kind: api.Add, Match: vlan(8), Prio: 7, Owner: 3},
		{Kind: api.Add, Match: vlan(5), Prio: 7, Owner: 4, Acts: out(6)},
		{Kind: api.Modify, Owner: 3, Acts: out(6)},
		{Kind: api.Modify, Owner: 3, Acts: out(1)},
		{Kind: api.Modify, Owner: 3},
		{Kind: api.ModifyIt, Match: vlan(5), Prio: 7, Owner: 3, Acts: out(6)},
		{Kind: api.ModifyIt, Match: vlan(5), Prio: 8, Owner: 3, Acts: out(6)},
		{Kind: api.Delete, Owner: 3},
		{Kind: api.Delete, Owner: 5},
		{Kind: api.DeleteIt, Match: vlan(5), Prio: 7, Owner: 3},
		{Kind: api.DeleteIt, Match: vlan(5), Prio: 7, Owner: 3, Acts: out(6)},
	}
}

// P8.1, P8.2, R4: no argument is changed, nor its room, nor its Acts.
func TestArgumentsStay(t *testing.T) {
	for _, c := range calls() {
		before := keptAll(c.args)
		c.call(c.args)
		if after := keptAll(c.args); !reflect.DeepEqual(after, before) {
			t.Errorf("%s: %+v became %+v", c.name, before, after)
		}
	}
}

// P8.1, P8.2, R4: the results share memory with no argument and no result of another call, the Acts included.
func TestResultsAreNew(t *testing.T) {
	for _, c := range calls() {
		before := keptAll(c.args)
		first, second := c.call(c.args), c.call(c.args)
		want := keptAll(second)
		for _, list := range first {
			spoil(list)
		}
		if !reflect.DeepEqual(keptAll(c.args), before) {
			t.Errorf("%s: writing to a result changes an argument", c.name)
		}
		for _, list := range c.args {
			spoil(list)
		}
		if !reflect.DeepEqual(keptAll(second), want) {
			t.Errorf("%s: a result changes with another one or with an argument", c.name)
		}
	}
}

// P8.1, P8.2, R4: no two lists of one result share memory, nor the Acts of two rules.
func TestResultsApart(t *testing.T) {
	for _, c := range calls() {
		got := c.call(c.args)
		for i := range got {
			for j := range got[i] {
				want := keptAll(got)
				spoilActs(got[i][j].Acts)
				after := keptAll(got)
				want[i][j].Acts, after[i][j].Acts = nil, nil
				if !reflect.DeepEqual(after, want) {
					t.Errorf("%s: the Acts of rule %d of list %d are shared", c.name, j, i)
				}
			}
		}
		for i := range got {
			want := keptAll(got)
			spoil(got[i])
			after := keptAll(got)
			want[i], after[i] = nil, nil
			if !reflect.DeepEqual(after, want) {
				t.Errorf("%s: list %d is shared", c.name, i)
			}
		}
	}
}

// P8.1, P8.2, R1: the same list may be handed in several times over.
func TestSameMemory(t *testing.T) {
	l := roomy(table())
	before := kept(l)
	differ(t, "the same list", l, l, nil, nil)
	differ(t, "parts of one list", l[:3], l[2:], l[:2], l[3:])
	swapped(t, "the same list", l, l, l, l)
	swapped(t, "parts of one list", l[:3], l[1:3], l[3:], pick(l, 0, 3, 4))
	swapped(t, "the first part of one list", l[:3], l[:2], l[:2], l[:3])
	if !reflect.DeepEqual(kept(l), before) {
		t.Errorf("the list became %+v", kept(l))
	}
}

// P8.1, P8.2, R5: nothing is kept: calls in another order have the same results.
func TestNothingKept(t *testing.T) {
	all := calls()
	var first [][][]api.Rule
	for _, c := range all {
		first = append(first, c.call(c.args))
	}
	for i := len(all) - 1; i >= 0; i-- {
		for j, list := range all[i].call(all[i].args) {
			same(t, all[i].name+" once more", list, first[i][j])
		}
	}
}
