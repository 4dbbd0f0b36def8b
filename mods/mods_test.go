package mods

import (
	"math"
	"math/rand"
	"reflect"
	"slices"
	"testing"

	"podesta/act"
	"podesta/api"
	"podesta/cube"
	"podesta/rule"
)

// The Kinds of changes, by the numbers that stand in messages.
const (
	add1, modify2, delete3, modifyIt4, deleteIt5 = 1, 2, 3, 4, 5
)

// vlan is the cube of the headers with this VLAN.
func vlan(v uint64) api.Cube {
	return and(cube.All(), api.Vlan, v, 12)
}

// and is c with a field fixed.
func and(c api.Cube, field int, v uint64, bits int) api.Cube {
	out, e := cube.With(c, field, v, bits)
	if e != api.OK {
		panic(e)
	}
	return out
}

// out is a list of one action.
func out(port int) []api.Act {
	return []api.Act{{Kind: api.Out, Port: port}}
}

// counted is a rule in which every number is other than zero.
func counted(match api.Cube, prio, owner int) api.Rule {
	return api.Rule{Match: match, Prio: prio, Owner: owner, Acts: out(1), Idle: 110, Hard: 120, Hits: 14, Quiet: 15, Age: 16}
}

// full is an Add that has every part, and otherwise a sound change with all parts that its Kind may have.
func full(kind int) api.Mod {
	m := api.Mod{Kind: kind, Match: vlan(5), Owner: 3}
	if kind == add1 || kind == modifyIt4 || kind == deleteIt5 {
		m.Prio = 7
	}
	if kind == add1 || kind == modify2 || kind == modifyIt4 {
		m.Acts = []api.Act{{Kind: api.Set, Field: api.Vlan, Value: 9}, {Kind: api.Out, Port: 2}}
	}
	if kind == add1 {
		m.Idle, m.Hard, m.Check = 11, 12, true
	}
	return m
}

// same complains of a list that is not as it should be.
func same(t *testing.T, what string, got, want []api.Rule) {
	t.Helper()
	if !rule.Same(got, want) {
		t.Errorf("%s: %+v, not %+v", what, got, want)
	}
}

// applied is the result of an Apply that must succeed.
func applied(t *testing.T, list []api.Rule, m api.Mod, room int) []api.Rule {
	t.Helper()
	got, e := Apply(list, m, room)
	if e != api.OK {
		t.Fatalf("Apply of %+v: error %d", m, e)
	}
	if !rule.Table(got) {
		t.Fatalf("Apply of %+v: no table: %+v", m, got)
	}
	return got
}

// refused complains unless Apply has this error and nothing beside it.
func refused(t *testing.T, what string, list []api.Rule, m api.Mod, room int, want api.Errno) {
	t.Helper()
	got, e := Apply(list, m, room)
	if e != want || len(got) != 0 {
		t.Errorf("%s: %+v and error %d, not %d", what, got, e, want)
	}
}

// P7.2: the chapter's example: the same Add twice gives one rule, with room for no second one.
func TestExample(t *testing.T) {
	m := full(add1)
	once := applied(t, nil, m, 1)
	if len(once) != 1 {
		t.Errorf("%+v", once)
	}
	same(t, "twice", applied(t, once, m, 1), once)
}

// P7.1: the numbers of the Kinds, and those just below and above and far from them.
func TestSoundKinds(t *testing.T) {
	for _, kind := range []int{add1, modify2, delete3, modifyIt4, deleteIt5} {
		if !Sound(api.Mod{Kind: kind}) || !Sound(full(kind)) {
			t.Errorf("Kind %d is not sound", kind)
		}
	}
	for _, kind := range []int{math.MinInt, -1 << 32, -5, -1, 0, 6, 7, 8, 255, 256, 257, 1<<32 + 1, math.MaxInt} {
		if Sound(api.Mod{Kind: kind}) || Sound(full(kind)) {
			t.Errorf("Kind %d is sound", kind)
		}
	}
	if api.Add != add1 || api.Modify != modify2 || api.Delete != delete3 || api.ModifyIt != modifyIt4 || api.DeleteIt != deleteIt5 {
		t.Error("the Kinds have other numbers")
	}
}

// parts is what a change may have, each with the Kinds that may have it.
func parts() map[string]struct {
	put   func(*api.Mod)
	kinds []int
} {
	type part = struct {
		put   func(*api.Mod)
		kinds []int
	}
	all := []int{add1, modify2, delete3, modifyIt4, deleteIt5}
	return map[string]part{
		"nothing":    {func(m *api.Mod) {}, all},
		"Match":      {func(m *api.Mod) { m.Match = vlan(5) }, all},
		"Owner":      {func(m *api.Mod) { m.Owner = 1 }, all},
		"Prio":       {func(m *api.Mod) { m.Prio = 1 }, []int{add1, modifyIt4, deleteIt5}},
		"Acts":       {func(m *api.Mod) { m.Acts = out(1) }, []int{add1, modify2, modifyIt4}},
		"empty Acts": {func(m *api.Mod) { m.Acts = []api.Act{} }, all},
		"roomy Acts": {func(m *api.Mod) { m.Acts = out(1)[:0] }, all},
		"Idle":       {func(m *api.Mod) { m.Idle = 1 }, []int{add1}},
		"Hard":       {func(m *api.Mod) { m.Hard = 1 }, []int{add1}},
		"Check":      {func(m *api.Mod) { m.Check = true }, []int{add1}},
	}
}

// P7.1: each part, alone and beside all that the Kind may have, is sound for the Kinds that may have it, and for no others.
func TestSoundParts(t *testing.T) {
	for name, part := range parts() {
		for kind := range 8 {
			for _, m := range []api.Mod{{Kind: kind}, full(kind)} {
				part.put(&m)
				if got, want := Sound(m), slices.Contains(part.kinds, kind); got != want {
					t.Errorf("Kind %d with %s: %v", kind, name, got)
				}
			}
		}
	}
}

// P7.1: the numbers at their limits and beyond, for each Kind that may have them.
func TestSoundLimits(t *testing.T) {
	for _, c := range []struct {
		name  string
		put   func(*api.Mod, int)
		most  int
		kinds []int
	}{
		{"Prio", func(m *api.Mod, n int) { m.Prio = n }, 65535, []int{add1, modifyIt4, deleteIt5}},
		{"Owner", func(m *api.Mod, n int) { m.Owner = n }, 255, []int{add1, modify2, delete3, modifyIt4, deleteIt5}},
		{"Idle", func(m *api.Mod, n int) { m.Idle = n }, 1048576, []int{add1}},
		{"Hard", func(m *api.Mod, n int) { m.Hard = n }, 1048576, []int{add1}},
	} {
		for kind := 1; kind <= 5; kind++ {
			for _, n := range []int{math.MinInt, -1 << 32, -c.most, -1, 0, 1, c.most - 1, c.most, c.most + 1, 1 << 32, math.MaxInt} {
				m := full(kind)
				c.put(&m, n)
				want := n == 0 || slices.Contains(c.kinds, kind) && 0 <= n && n <= c.most
				if Sound(m) != want {
					t.Errorf("Kind %d, %s %d: %v", kind, c.name, n, !want)
				}
			}
		}
	}
}

// badMatches is cubes that are not sound.
func badMatches() []api.Cube {
	return []api.Cube{
		{Value: api.Head{api.Vlan: 1}},
		{Value: api.Head{api.Vlan: 3}, Care: api.Head{api.Vlan: 1}},
		{Care: api.Head{api.Vlan: 0x1000}},
		{Value: api.Head{api.Pcp: 16}, Care: api.Head{api.Pcp: 31}},
		{Care: api.Head{api.DstPort: math.MaxUint64}},
	}
}

// badActs is lists of actions that are not sound.
func badActs() [][]api.Act {
	return [][]api.Act{
		{{}},
		{{Kind: 4}},
		{{Kind: api.Out}},
		{{Kind: api.Out, Port: api.MaxPorts + 1}},
		{{Kind: api.Tell, Port: 1}},
		{{Kind: api.Set, Field: api.Fields}},
		{{Kind: api.Set, Field: api.Vlan, Value: 0x1000}},
		{{Kind: api.Tell}, {Kind: api.Tell}, {Kind: -1}},
		slices.Repeat([]api.Act{{Kind: api.Tell}}, api.MaxActs+1),
	}
}

// P7.1: a Match or Acts that are not sound, for each Kind; as many actions as there may be.
func TestSoundMatchAndActs(t *testing.T) {
	for kind := 1; kind <= 5; kind++ {
		for _, c := range badMatches() {
			m := full(kind)
			m.Match = c
			if Sound(m) {
				t.Errorf("Kind %d with Match %+v is sound", kind, c)
			}
		}
		for _, acts := range badActs() {
			m := full(kind)
			m.Acts = acts
			if Sound(m) {
				t.Errorf("Kind %d with Acts %+v is sound", kind, acts)
			}
		}
		m := full(kind)
		m.Acts = slices.Repeat([]api.Act{{Kind: api.Tell}}, api.MaxActs)
		if Sound(m) != (kind != delete3 && kind != deleteIt5) {
			t.Errorf("Kind %d with 8 actions: %v", kind, Sound(m))
		}
	}
}

// places is rules around the change with Match VLAN 5 and Src 10/8, Prio 7 and Owner 3, some within its Match, some not.
func places() []api.Rule {
	c := and(vlan(5), api.Src, 10<<24, 8)
	narrow := and(c, api.Src, 10<<24|1<<16, 16)
	return []api.Rule{
		counted(c, 9, 3),                          // 0: another Prio
		counted(narrow, 9, 3),                     // 1: within, another Prio
		counted(cube.All(), 7, 3),                 // 2: wider
		counted(vlan(5), 7, 3),                    // 3: wider
		counted(c, 7, 3),                          // 4: the one itself
		counted(narrow, 7, 3),                     // 5: within
		counted(c, 7, 4),                          // 6: another Owner
		counted(narrow, 7, 4),                     // 7: within, another Owner
		counted(and(c, api.Vlan, 5, 0), 7, 3),     // 8: meets it only
		counted(and(c, api.Vlan, 6, 12), 7, 3),    // 9: apart
		counted(and(c, api.Src, 11<<24, 8), 7, 3), // 10: apart
		counted(and(c, api.Src, 10<<24, 7), 7, 3), // 11: wider by one bit
		counted(and(c, api.Src, 10<<24, 9), 7, 3), // 12: narrower by one bit
		counted(c, 6, 3),                          // 13: another Prio
		counted(c, 0, 3),                          // 14: Prio 0
		counted(c, 7, 0),                          // 15: another Owner
		counted(c, 7, 3),                          // 16: the one itself, once more
	}
}

// P7.1: which rules each Kind touches.
func TestTouched(t *testing.T) {
	c := and(vlan(5), api.Src, 10<<24, 8)
	within := []int{0, 1, 4, 5, 12, 13, 14, 16}
	for _, x := range []struct {
		name string
		m    api.Mod
		want []int
	}{
		{"Add", api.Mod{Kind: add1, Match: c, Prio: 7, Owner: 3}, nil},
		{"Modify", api.Mod{Kind: modify2, Match: c, Owner: 3}, within},
		{"Modify with Acts", api.Mod{Kind: modify2, Match: c, Owner: 3, Acts: out(4)}, within},
		{"Delete", api.Mod{Kind: delete3, Match: c, Owner: 3}, within},
		{"ModifyIt", api.Mod{Kind: modifyIt4, Match: c, Prio: 7, Owner: 3}, []int{4, 16}},
		{"ModifyIt with Acts", api.Mod{Kind: modifyIt4, Match: c, Prio: 7, Owner: 3, Acts: out(4)}, []int{4, 16}},
		{"DeleteIt", api.Mod{Kind: deleteIt5, Match: c, Prio: 7, Owner: 3}, []int{4, 16}},
		{"DeleteIt with Prio 0", api.Mod{Kind: deleteIt5, Match: c, Owner: 3}, []int{14}},
		{"ModifyIt with Prio 9", api.Mod{Kind: modifyIt4, Match: c, Prio: 9, Owner: 3}, []int{0}},
		{"DeleteIt with Prio 8", api.Mod{Kind: deleteIt5, Match: c, Prio: 8, Owner: 3}, nil},
		{"Modify of Owner 4", api.Mod{Kind: modify2, Match: c, Owner: 4}, []int{6, 7}},
		{"Delete of Owner 0", api.Mod{Kind: delete3, Match: c}, []int{15}},
		{"DeleteIt of Owner 4", api.Mod{Kind: deleteIt5, Match: c, Prio: 7, Owner: 4}, []int{6}},
		{"Delete of Owner 5", api.Mod{Kind: delete3, Match: c, Owner: 5}, nil},
		{"Delete of all", api.Mod{Kind: delete3, Owner: 3}, []int{0, 1, 2, 3, 4, 5, 8, 9, 10, 11, 12, 13, 14, 16}},
		{"DeleteIt of all", api.Mod{Kind: deleteIt5, Prio: 7, Owner: 3}, []int{2}},
		{"Delete of what is apart", api.Mod{Kind: delete3, Match: vlan(99), Owner: 3}, nil},
	} {
		if got := Touched(places(), x.m); !slices.Equal(got, x.want) {
			t.Errorf("%s: %v, not %v", x.name, got, x.want)
		}
	}
}

// P7.1: a change that is not sound touches nothing, be it only a little so.
func TestTouchedUnsound(t *testing.T) {
	list := []api.Rule{{}, {Prio: 1}, {Match: vlan(5), Prio: 7, Owner: 3}, {Match: vlan(5), Owner: 3}, {Owner: 3}}
	for kind := -1; kind <= 7; kind++ {
		for name, part := range parts() {
			m := full(kind)
			part.put(&m)
			if got := Touched(list, m); !Sound(m) && len(got) != 0 {
				t.Errorf("Kind %d with %s: %v", kind, name, got)
			}
		}
	}
	for _, c := range badMatches() {
		for kind := 1; kind <= 5; kind++ {
			list := []api.Rule{{Match: c}, {}}
			if got := Touched(list, api.Mod{Kind: kind, Match: c}); len(got) != 0 {
				t.Errorf("Kind %d with Match %+v: %v", kind, c, got)
			}
		}
	}
	for _, owner := range []int{-1, api.MaxOwner + 1} {
		for kind := 1; kind <= 5; kind++ {
			if got := Touched([]api.Rule{{Owner: owner}}, api.Mod{Kind: kind, Owner: owner}); len(got) != 0 {
				t.Errorf("Kind %d of Owner %d: %v", kind, owner, got)
			}
		}
	}
	for _, prio := range []int{-1, api.MaxPrio + 1} {
		if got := Touched([]api.Rule{{Prio: prio}}, api.Mod{Kind: deleteIt5, Prio: prio}); len(got) != 0 {
			t.Errorf("DeleteIt with Prio %d: %v", prio, got)
		}
	}
}

// P7.1, R1: rules that are not sound and lists that are no tables: what counts is Owner, Match and Prio alone.
func TestTouchedAnyList(t *testing.T) {
	list := []api.Rule{
		{Hits: -1}, {Acts: []api.Act{{}}}, {Idle: -1}, {Hard: api.MaxTime + 1}, {Age: -1, Quiet: -1},
		{Prio: -1}, {Prio: api.MaxPrio + 1}, {Owner: -1},
		{Match: badMatches()[0]}, {Match: badMatches()[4]}, {}, {},
	}
	for _, x := range []struct {
		kind int
		want []int
	}{
		{modify2, []int{0, 1, 2, 3, 4, 5, 6, 10, 11}},
		{delete3, []int{0, 1, 2, 3, 4, 5, 6, 10, 11}},
		{modifyIt4, []int{0, 1, 2, 3, 4, 10, 11}},
		{deleteIt5, []int{0, 1, 2, 3, 4, 10, 11}},
		{add1, nil},
	} {
		if got := Touched(list, api.Mod{Kind: x.kind}); !slices.Equal(got, x.want) {
			t.Errorf("Kind %d: %v, not %v", x.kind, got, x.want)
		}
	}
}

// P7.1, P7.2: nil and empty lists.
func TestNothing(t *testing.T) {
	for _, list := range [][]api.Rule{nil, {}, make([]api.Rule, 0, 5)} {
		for kind := range 7 {
			m := full(kind)
			if got := Touched(list, m); len(got) != 0 {
				t.Errorf("Kind %d touches %v", kind, got)
			}
			got, e := Apply(list, m, 1)
			switch {
			case kind == add1:
				same(t, "Add", got, []api.Rule{{Match: m.Match, Prio: 7, Acts: m.Acts, Idle: 11, Hard: 12, Owner: 3}})
			case kind < 1 || kind > 5:
				if e != api.ErrForm || len(got) != 0 {
					t.Errorf("Kind %d: %+v, %d", kind, got, e)
				}
			case e != api.OK || len(got) != 0:
				t.Errorf("Kind %d: %+v, %d", kind, got, e)
			}
		}
	}
}

// table is three rules of two Owners, in order.
func table() []api.Rule {
	return []api.Rule{counted(vlan(5), 9, 3), counted(vlan(6), 9, 4), counted(cube.All(), 5, 3)}
}

// notTables is lists that are no tables.
func notTables() map[string][]api.Rule {
	l := table()
	out := map[string][]api.Rule{
		"not sorted by Prio":          {l[2], l[0]},
		"not sorted by Match":         {l[1], l[0]},
		"the same key twice":          {l[0], l[0]},
		"the same key, another Owner": {l[0], counted(vlan(5), 9, 4)},
	}
	for name, spoilt := range map[string]api.Rule{
		"Prio": {Prio: -1}, "Owner": {Owner: 256}, "Hits": {Hits: -1}, "Quiet": {Quiet: -1}, "Age": {Age: -1},
		"Idle": {Idle: -1}, "Hard": {Hard: 1<<20 + 1}, "Acts": {Acts: []api.Act{{}}}, "Match": {Match: badMatches()[0]},
	} {
		out["only a rule with a bad "+name] = []api.Rule{spoilt}
		out["last a rule with a bad "+name] = append(table(), spoilt)
	}
	return out
}

// P7.2: ErrForm for lists that are no tables, with every Kind, whatever else is wrong.
func TestApplyNoTable(t *testing.T) {
	for name, list := range notTables() {
		for kind := range 7 {
			for _, room := range []int{math.MinInt, -1, 0, 1, 9, math.MaxInt} {
				refused(t, name, list, full(kind), room, api.ErrForm)
			}
		}
	}
}

// P7.2: ErrForm for changes that are not sound, whatever else is wrong.
func TestApplyUnsound(t *testing.T) {
	var bad []api.Mod
	for kind := -1; kind <= 7; kind++ {
		for _, part := range parts() {
			m := full(kind)
			part.put(&m)
			if !Sound(m) {
				bad = append(bad, m)
			}
		}
	}
	for kind := 1; kind <= 5; kind++ {
		for _, n := range []int{-1, math.MaxInt, math.MinInt} {
			bad = append(bad, api.Mod{Kind: kind, Prio: n}, api.Mod{Kind: kind, Owner: n}, api.Mod{Kind: kind, Idle: n}, api.Mod{Kind: kind, Hard: n})
		}
		bad = append(bad, api.Mod{Kind: kind, Match: badMatches()[0]}, api.Mod{Kind: kind, Acts: badActs()[0]})
	}
	for _, m := range bad {
		for _, list := range [][]api.Rule{nil, table(), {{Match: m.Match, Prio: max(0, m.Prio), Owner: 9}}} {
			for _, room := range []int{-1, 0, 9} {
				refused(t, "unsound", list, m, room, api.ErrForm)
			}
		}
	}
}

// P7.2: Add puts a new key in its place: ahead of all, between, behind all, by Prio and by Match.
func TestAddPlaces(t *testing.T) {
	l := table()
	for _, x := range []struct {
		match api.Cube
		prio  int
		at    int
	}{
		{vlan(5), 10, 0}, {cube.All(), 10, 0}, {cube.All(), 9, 0}, {vlan(4), 9, 0}, {vlan(7), 9, 2}, {vlan(5), 8, 2},
		{vlan(9), 6, 2}, {vlan(5), 5, 3}, {cube.All(), 4, 3}, {vlan(5), 0, 3}, {vlan(5), api.MaxPrio, 0},
	} {
		m := api.Mod{Kind: add1, Match: x.match, Prio: x.prio, Owner: 8, Acts: out(6), Idle: 1, Hard: 2}
		want := slices.Insert(slices.Clone(l), x.at, api.Rule{Match: x.match, Prio: x.prio, Owner: 8, Acts: out(6), Idle: 1, Hard: 2})
		same(t, "Add", applied(t, l, m, 4), want)
	}
}

// P7.2: Add with the key of a rule of the same Owner replaces all of it: nothing that was counted is left.
func TestAddReplaces(t *testing.T) {
	l := table()
	for i, r := range l {
		m := api.Mod{Kind: add1, Match: r.Match, Prio: r.Prio, Owner: r.Owner, Acts: out(6), Idle: 1, Hard: 2}
		want := slices.Clone(l)
		want[i] = api.Rule{Match: r.Match, Prio: r.Prio, Owner: r.Owner, Acts: out(6), Idle: 1, Hard: 2}
		for _, room := range []int{math.MinInt, -1, 0, 2, 3, 4, math.MaxInt} {
			same(t, "Add", applied(t, l, m, room), want)
		}
		m.Acts, m.Idle, m.Hard = nil, 0, 0
		want[i].Acts, want[i].Idle, want[i].Hard = nil, 0, 0
		same(t, "plain Add", applied(t, l, m, 0), want)
	}
}

// P7.2: the new rule has every part of the change, at the limits too.
func TestAddParts(t *testing.T) {
	acts := slices.Repeat([]api.Act{{Kind: api.Tell}}, api.MaxActs)
	m := api.Mod{Kind: add1, Match: vlan(5), Prio: 65535, Acts: acts, Idle: 1048576, Hard: 1048575, Owner: 255, Check: true}
	want := []api.Rule{{Match: vlan(5), Prio: 65535, Acts: acts, Idle: 1048576, Hard: 1048575, Owner: 255}}
	if got := applied(t, nil, m, 1); !reflect.DeepEqual(got, want) {
		t.Errorf("%+v", got)
	}
}

// P7.2: ErrOwner if the rule with the key has another Owner; a rule with another key may have any.
func TestAddOwner(t *testing.T) {
	l := table()
	for _, r := range l {
		for owner := range 6 {
			m := api.Mod{Kind: add1, Match: r.Match, Prio: r.Prio, Owner: owner}
			if owner != r.Owner {
				refused(t, "another Owner", l, m, 9, api.ErrOwner)
			} else {
				applied(t, l, m, 9)
			}
			m.Prio--
			applied(t, l, m, 9)
		}
	}
}

// P7.2: with Check an Add must not overlap a rule with another key: the same Prio, and a common header.
func TestAddCheck(t *testing.T) {
	src := and(cube.All(), api.Src, 10<<24, 8)
	l := []api.Rule{counted(vlan(5), 7, 3), counted(vlan(6), 7, 4)}
	for _, x := range []struct {
		name  string
		match api.Cube
		prio  int
		owner int
		want  api.Errno
	}{
		{"wider", cube.All(), 7, 3, api.ErrOverlap},
		{"wider, a third Owner", cube.All(), 7, 8, api.ErrOverlap},
		{"narrower", and(vlan(5), api.Src, 1, 32), 7, 3, api.ErrOverlap},
		{"narrower than the second", and(vlan(6), api.Src, 1, 32), 7, 3, api.ErrOverlap},
		{"meets both", src, 7, 3, api.ErrOverlap},
		{"meets one", and(src, api.Vlan, 6, 12), 7, 3, api.ErrOverlap},
		{"apart", vlan(7), 7, 3, api.OK},
		{"apart but for one bit", and(cube.All(), api.Vlan, 0x800, 1), 7, 3, api.OK},
		{"a higher Prio", cube.All(), 8, 3, api.OK},
		{"a lower Prio", cube.All(), 6, 3, api.OK},
		{"the same key", vlan(5), 7, 3, api.OK},
		{"the same Match, another Prio", vlan(5), 8, 4, api.OK},
	} {
		m := api.Mod{Kind: add1, Match: x.match, Prio: x.prio, Owner: x.owner, Check: true}
		got, e := Apply(l, m, 9)
		if e != x.want || (e != api.OK) != (len(got) == 0) {
			t.Errorf("%s: %+v, %d", x.name, got, e)
		}
		m.Check = false
		applied(t, l, m, 9)
	}
}

// P7.2: a rule with the key of the Add does not hide that others overlap it.
func TestAddCheckSameKeyAndOthers(t *testing.T) {
	l := []api.Rule{counted(cube.All(), 7, 3), counted(vlan(5), 7, 3), counted(vlan(6), 7, 3)}
	for _, r := range l {
		m := api.Mod{Kind: add1, Match: r.Match, Prio: 7, Owner: 3}
		applied(t, l, m, 0)
		m.Check = true
		refused(t, "others overlap", l, m, 9, api.ErrOverlap)
	}
	m := api.Mod{Kind: add1, Match: vlan(5), Prio: 7, Owner: 3, Check: true}
	applied(t, l[1:], m, 0)
}

// P7.2: room around the number of rules: it counts for an Add with a new key alone.
func TestAddRoom(t *testing.T) {
	for size := range 6 {
		var l []api.Rule
		for n := range size {
			l = append(l, counted(vlan(5), 9-n, 3))
		}
		m := api.Mod{Kind: add1, Match: vlan(6), Prio: 7, Owner: 3}
		for _, room := range []int{math.MinInt, -1 << 32, -size, -1, 0, 1, size - 1, size, size + 1, size + 2, 32, 1 << 32, math.MaxInt} {
			if size >= room {
				refused(t, "no room", l, m, room, api.ErrFull)
			} else if got := applied(t, l, m, room); len(got) != size+1 {
				t.Errorf("size %d, room %d: %+v", size, room, got)
			}
		}
	}
}

// P7.2: room is the caller's number: more rules than a unit holds are no error here.
func TestAddMany(t *testing.T) {
	var l []api.Rule
	for n := range 3 * api.MaxRules {
		l = applied(t, l, api.Mod{Kind: add1, Match: vlan(uint64(n)), Prio: n % 5, Owner: n % 7, Check: true}, math.MaxInt)
		if len(l) != n+1 {
			t.Fatalf("%d rules after %d Adds", len(l), n+1)
		}
	}
}

// P7.2, R2: of several errors the first one in the order of the document.
func TestErrorOrder(t *testing.T) {
	l := []api.Rule{counted(cube.All(), 7, 3), counted(vlan(5), 7, 3)}
	m := api.Mod{Kind: add1, Match: vlan(5), Prio: 7, Owner: 4, Check: true}
	refused(t, "Owner ahead of Overlap", l, m, 9, api.ErrOwner)
	refused(t, "Owner ahead of Full", l, m, 0, api.ErrOwner)
	m.Match = vlan(6)
	refused(t, "Overlap ahead of Full", l, m, 2, api.ErrOverlap)
	m.Check = false
	refused(t, "Full", l, m, 2, api.ErrFull)
	m.Match, m.Acts = vlan(5), badActs()[0]
	refused(t, "Form of the change ahead of Owner", l, m, 0, api.ErrForm)
	m.Match = vlan(6)
	refused(t, "Form of the change ahead of Full", l, m, 0, api.ErrForm)
	m.Acts, m.Check = nil, true
	refused(t, "Form of the list ahead of Overlap", []api.Rule{l[1], l[0]}, m, 0, api.ErrForm)
}

// P7.2: Modify and ModifyIt give the Acts, nil and empty ones too, and leave all else as it was; room is no matter.
func TestModify(t *testing.T) {
	l := []api.Rule{counted(vlan(5), 9, 3), counted(vlan(5), 7, 3), counted(and(vlan(5), api.Src, 1, 32), 7, 3), counted(vlan(6), 7, 3), counted(vlan(5), 6, 4)}
	for _, x := range []struct {
		m       api.Mod
		touched []int
	}{
		{api.Mod{Kind: modify2, Match: vlan(5), Owner: 3}, []int{0, 1, 3}},
		{api.Mod{Kind: modify2, Owner: 3}, []int{0, 1, 2, 3}},
		{api.Mod{Kind: modify2, Match: vlan(6), Owner: 3}, []int{2}},
		{api.Mod{Kind: modify2, Owner: 4}, []int{4}},
		{api.Mod{Kind: modify2, Owner: 5}, nil},
		{api.Mod{Kind: modify2, Match: vlan(7), Owner: 3}, nil},
		{api.Mod{Kind: modifyIt4, Match: vlan(5), Prio: 7, Owner: 3}, []int{1}},
		{api.Mod{Kind: modifyIt4, Match: vlan(5), Prio: 9, Owner: 3}, []int{0}},
		{api.Mod{Kind: modifyIt4, Match: vlan(5), Prio: 6, Owner: 3}, nil},
		{api.Mod{Kind: modifyIt4, Match: vlan(5), Prio: 6, Owner: 4}, []int{4}},
		{api.Mod{Kind: modifyIt4, Prio: 7, Owner: 3}, nil},
	} {
		l := rule.Sort(l)
		for _, acts := range [][]api.Act{nil, {}, out(4), {{Kind: api.Tell}, {Kind: api.Out, Port: 5}}} {
			x.m.Acts = acts
			want := rule.Copy(l)
			for _, i := range x.touched {
				want[i].Acts = acts
			}
			for _, room := range []int{math.MinInt, -1, 0, 4, 5, 6, math.MaxInt} {
				same(t, "modified", applied(t, l, x.m, room), want)
			}
			same(t, "modified twice", applied(t, applied(t, l, x.m, 0), x.m, 0), want)
		}
	}
}

// P7.2: Delete and DeleteIt take the touched rules out and leave the others as they were; room is no matter.
func TestDelete(t *testing.T) {
	l := rule.Sort([]api.Rule{counted(vlan(5), 9, 3), counted(vlan(5), 7, 3), counted(and(vlan(5), api.Src, 1, 32), 7, 3), counted(vlan(6), 7, 3), counted(vlan(5), 6, 4)})
	for _, x := range []struct {
		m    api.Mod
		left []int
	}{
		{api.Mod{Kind: delete3, Match: vlan(5), Owner: 3}, []int{2, 4}},
		{api.Mod{Kind: delete3, Owner: 3}, []int{4}},
		{api.Mod{Kind: delete3, Match: vlan(6), Owner: 3}, []int{0, 1, 3, 4}},
		{api.Mod{Kind: delete3, Owner: 4}, []int{0, 1, 2, 3}},
		{api.Mod{Kind: delete3, Owner: 5}, []int{0, 1, 2, 3, 4}},
		{api.Mod{Kind: delete3, Match: vlan(7), Owner: 3}, []int{0, 1, 2, 3, 4}},
		{api.Mod{Kind: deleteIt5, Match: vlan(5), Prio: 7, Owner: 3}, []int{0, 2, 3, 4}},
		{api.Mod{Kind: deleteIt5, Match: vlan(5), Prio: 9, Owner: 3}, []int{1, 2, 3, 4}},
		{api.Mod{Kind: deleteIt5, Match: vlan(5), Prio: 6, Owner: 3}, []int{0, 1, 2, 3, 4}},
		{api.Mod{Kind: deleteIt5, Match: vlan(5), Prio: 6, Owner: 4}, []int{0, 1, 2, 3}},
		{api.Mod{Kind: deleteIt5, Prio: 7, Owner: 3}, []int{0, 1, 2, 3, 4}},
	} {
		var want []api.Rule
		for _, i := range x.left {
			want = append(want, l[i])
		}
		for _, room := range []int{math.MinInt, -1, 0, 4, 5, 6, math.MaxInt} {
			same(t, "deleted", applied(t, l, x.m, room), want)
		}
		same(t, "deleted twice", applied(t, applied(t, l, x.m, 0), x.m, 0), want)
	}
	mine := []api.Rule{counted(vlan(5), 9, 3), counted(vlan(6), 7, 3)}
	same(t, "all", applied(t, mine, api.Mod{Kind: delete3, Owner: 3}, 0), nil)
}

// P7.2: Same sees every part, and each alone.
func TestSame(t *testing.T) {
	variants := []func(*api.Mod){
		func(m *api.Mod) {},
		func(m *api.Mod) { m.Kind++ },
		func(m *api.Mod) { m.Match.Value[api.Vlan] = 4 },
		func(m *api.Mod) { m.Match.Care[api.DstPort] = 1 },
		func(m *api.Mod) { m.Prio++ },
		func(m *api.Mod) { m.Acts = nil },
		func(m *api.Mod) { m.Acts = m.Acts[:1] },
		func(m *api.Mod) { m.Acts = []api.Act{m.Acts[1], m.Acts[0]} },
		func(m *api.Mod) { m.Acts = []api.Act{m.Acts[0], {Kind: api.Out, Port: 3}} },
		func(m *api.Mod) { m.Acts = append(m.Acts, api.Act{}) },
		func(m *api.Mod) { m.Idle++ },
		func(m *api.Mod) { m.Hard++ },
		func(m *api.Mod) { m.Owner++ },
		func(m *api.Mod) { m.Check = false },
		func(m *api.Mod) { m.Idle, m.Hard = m.Hard, m.Idle },
		func(m *api.Mod) { m.Prio, m.Owner = -1, math.MinInt },
	}
	for i, a := range variants {
		for j, b := range variants {
			x, y := full(add1), full(add1)
			a(&x)
			b(&y)
			if Same(x, y) != (i == j) {
				t.Errorf("%+v and %+v: %v", x, y, i != j)
			}
		}
	}
}

// P7.2: for Same nil and empty lists are equal, and so are changes that are not sound.
func TestSameNothing(t *testing.T) {
	lists := [][]api.Act{nil, {}, out(1)[:0]}
	for _, a := range lists {
		for _, b := range lists {
			if !Same(api.Mod{Acts: a}, api.Mod{Acts: b}) {
				t.Errorf("%v and %v differ", a, b)
			}
		}
		if Same(api.Mod{Acts: a}, api.Mod{Acts: out(1)}) || Same(api.Mod{Acts: out(1)}, api.Mod{Acts: a}) {
			t.Error("nothing is equal to something")
		}
	}
	bad := api.Mod{Kind: -9, Match: badMatches()[1], Prio: math.MinInt, Acts: badActs()[8], Idle: -1, Hard: -1, Owner: -1, Check: true}
	if !Same(bad, bad) || !Same(api.Mod{}, api.Mod{}) || Same(bad, api.Mod{}) {
		t.Error("changes that are not sound")
	}
}

// soundAsWritten is the chapter's term, part by part.
func soundAsWritten(m api.Mod) bool {
	isAdd := m.Kind == add1
	if m.Kind < 1 || m.Kind > 5 || !cube.Sound(m.Match) || !act.Sound(m.Acts) {
		return false
	}
	if (m.Kind == delete3 || m.Kind == deleteIt5) && len(m.Acts) > 0 {
		return false
	}
	if m.Prio < 0 || m.Prio > 65535 || (m.Kind == modify2 || m.Kind == delete3) && m.Prio != 0 {
		return false
	}
	if m.Owner < 0 || m.Owner > 255 || m.Check && !isAdd {
		return false
	}
	for _, time := range []int{m.Idle, m.Hard} {
		if time < 0 || time > 1<<20 || time != 0 && !isAdd {
			return false
		}
	}
	return true
}

// touchedAsWritten is the first promise on Touched.
func touchedAsWritten(list []api.Rule, m api.Mod) []int {
	var out []int
	for i, r := range list {
		switch {
		case !soundAsWritten(m) || r.Owner != m.Owner:
		case m.Kind == modify2 || m.Kind == delete3:
			if cube.Within(r.Match, m.Match) {
				out = append(out, i)
			}
		case m.Kind == modifyIt4 || m.Kind == deleteIt5:
			if r.Match == m.Match && r.Prio == m.Prio {
				out = append(out, i)
			}
		}
	}
	return out
}

// applyAsWritten is the promise on Apply, without a word on memory.
func applyAsWritten(list []api.Rule, m api.Mod, room int) ([]api.Rule, api.Errno) {
	if !rule.Table(list) || !soundAsWritten(m) {
		return nil, api.ErrForm
	}
	touched := touchedAsWritten(list, m)
	var out []api.Rule
	for i, r := range list {
		switch {
		case !slices.Contains(touched, i):
			out = append(out, r)
		case m.Kind == modify2 || m.Kind == modifyIt4:
			r.Acts = m.Acts
			out = append(out, r)
		}
	}
	if m.Kind != add1 {
		return out, api.OK
	}
	return addAsWritten(list, m, room)
}

// addAsWritten is the part of the promise on Apply that is about Add.
func addAsWritten(list []api.Rule, m api.Mod, room int) ([]api.Rule, api.Errno) {
	owner, overlap, there := false, false, false
	var out []api.Rule
	for _, r := range list {
		if r.Match == m.Match && r.Prio == m.Prio {
			there = true
			owner = r.Owner != m.Owner
			continue
		}
		out = append(out, r)
		if _, ok := cube.Meet(r.Match, m.Match); ok && r.Prio == m.Prio && m.Check {
			overlap = true
		}
	}
	switch {
	case owner:
		return nil, api.ErrOwner
	case overlap:
		return nil, api.ErrOverlap
	case !there && len(list) >= room:
		return nil, api.ErrFull
	}
	out = append(out, api.Rule{Match: m.Match, Prio: m.Prio, Acts: m.Acts, Idle: m.Idle, Hard: m.Hard, Owner: m.Owner})
	slices.SortFunc(out, func(a, b api.Rule) int {
		if a.Prio != b.Prio {
			return b.Prio - a.Prio
		}
		return cube.Compare(a.Match, b.Match)
	})
	return out, api.OK
}

// anyMatch is one of few cubes, so that many are equal, within each other or meet; rarely it is not sound.
func anyMatch(r *rand.Rand) api.Cube {
	if r.Intn(60) == 0 {
		return badMatches()[r.Intn(5)]
	}
	c := cube.All()
	if r.Intn(2) == 0 {
		c = and(c, api.Pcp, uint64(r.Intn(3)), 4)
	}
	if r.Intn(2) == 0 {
		c = and(c, api.Tos, uint64(r.Intn(4))<<4, r.Intn(4))
	}
	return c
}

// anyActs is one of few lists of actions; rarely it is not sound.
func anyActs(r *rand.Rand) []api.Act {
	if r.Intn(60) == 0 {
		return badActs()[r.Intn(9)]
	}
	return slices.Repeat(out(1+r.Intn(3)), r.Intn(4))
}

// rarely is n once in a while, and otherwise 0.
func rarely(r *rand.Rand, n int) int {
	if r.Intn(30) > 0 {
		return 0
	}
	return n
}

// anyTable is a table, or rarely a list that is none.
func anyTable(r *rand.Rand) []api.Rule {
	var list []api.Rule
	for range r.Intn(12) {
		x := counted(anyMatch(r), r.Intn(3), r.Intn(3))
		x.Acts, x.Hits, x.Age = anyActs(r), r.Intn(9), r.Intn(9)
		list = append(list, x)
	}
	if r.Intn(20) > 0 {
		list = rule.Sort(list)
	}
	return list
}

// anyMod is a change of any Kind, most of them sound.
func anyMod(r *rand.Rand) api.Mod {
	m := api.Mod{Kind: 1 + r.Intn(5), Match: anyMatch(r), Owner: r.Intn(3)}
	m.Prio, m.Idle, m.Hard, m.Check = rarely(r, 1), rarely(r, 1), rarely(r, 1), rarely(r, 1) == 1
	switch m.Kind {
	case add1:
		m.Prio, m.Idle, m.Hard, m.Acts, m.Check = r.Intn(3), r.Intn(9), r.Intn(9), anyActs(r), r.Intn(2) == 0
	case modifyIt4:
		m.Prio, m.Acts = r.Intn(3), anyActs(r)
	case deleteIt5:
		m.Prio = r.Intn(3)
	case modify2:
		m.Acts = anyActs(r)
	}
	m.Kind += rarely(r, r.Intn(13)-6)
	m.Owner += rarely(r, -1)
	m.Owner += rarely(r, 255)
	m.Prio += rarely(r, -1)
	m.Idle += rarely(r, 1<<20)
	m.Hard += rarely(r, -5)
	return m
}

// P7.1, P7.2: many tables and changes: all functions do as written.
func TestAsWritten(t *testing.T) {
	r := rand.New(rand.NewSource(7))
	seen := map[[2]int]int{}
	for range 40000 {
		list, m := anyTable(r), anyMod(r)
		room := len(list) + r.Intn(7) - 2
		if Sound(m) != soundAsWritten(m) {
			t.Fatalf("Sound of %+v: %v", m, Sound(m))
		}
		if got, want := Touched(list, m), touchedAsWritten(list, m); !slices.Equal(got, want) {
			t.Fatalf("Touched of %+v and %+v: %v, not %v", list, m, got, want)
		}
		got, e := Apply(list, m, room)
		want, wantE := applyAsWritten(list, m, room)
		if e != wantE || !rule.Same(got, want) {
			t.Fatalf("Apply of %+v and %+v, room %d: %+v, %d, not %+v, %d", list, m, room, got, e, want, wantE)
		}
		if m.Kind >= 1 && m.Kind <= 5 {
			seen[[2]int{m.Kind, int(e)}]++
		}
	}
	for _, kind := range []int{add1, modify2, delete3, modifyIt4, deleteIt5} {
		for _, e := range []api.Errno{api.OK, api.ErrForm} {
			if seen[[2]int{kind, int(e)}] < 100 {
				t.Errorf("Kind %d with error %d is hardly tried", kind, e)
			}
		}
	}
	for _, e := range []api.Errno{api.ErrOwner, api.ErrOverlap, api.ErrFull} {
		if seen[[2]int{add1, int(e)}] < 100 {
			t.Errorf("Add with error %d is hardly tried", e)
		}
	}
}

// roomy is a table of four rules with room behind the list and behind each of their Acts.
func roomy() []api.Rule {
	acts := []api.Act{{Kind: api.Out, Port: 1}, {Kind: api.Tell}, {Kind: api.Out, Port: 3}, {Kind: api.Out, Port: 4}}
	list := []api.Rule{
		counted(vlan(5), 9, 3), counted(vlan(6), 9, 3), counted(vlan(5), 7, 3), counted(cube.All(), 5, 3), counted(vlan(5), 4, 3), counted(vlan(5), 3, 3),
	}
	for i := range list {
		list[i].Acts = slices.Clone(acts)[:2]
	}
	return list[:4]
}

// kept is everything that a list reaches, its room included.
func kept(list []api.Rule) []api.Rule {
	out := slices.Clone(list[:cap(list)])
	for i := range out {
		out[i].Acts = slices.Clone(out[i].Acts[:cap(out[i].Acts)])
	}
	return out
}

// spoil overwrites a list and all its Acts, with what lies behind their ends.
func spoil(list []api.Rule) {
	list = list[:cap(list)]
	for i := range list {
		spoilActs(list[i].Acts)
		list[i] = api.Rule{Prio: -1}
	}
}

// spoilActs overwrites a list of actions, with what lies behind its end.
func spoilActs(acts []api.Act) {
	acts = acts[:cap(acts)]
	for i := range acts {
		acts[i] = api.Act{Kind: -1}
	}
}

// roomyMods is changes of every Kind for the table roomy, those that may have Acts with room behind them, with all sorts of results.
func roomyMods() []api.Mod {
	acts := func() []api.Act {
		return []api.Act{{Kind: api.Out, Port: 6}, {Kind: api.Out, Port: 7}, {Kind: api.Out, Port: 8}, {Kind: api.Out, Port: 9}}[:2]
	}
	none := func() []api.Act { return acts()[:0] }
	return []api.Mod{
		{Kind: add1, Match: vlan(7), Prio: 9, Owner: 3, Acts: acts()},
		{Kind: add1, Match: vlan(7), Prio: 1, Owner: 3, Acts: acts()},
		{Kind: add1, Match: vlan(6), Prio: 9, Owner: 3, Acts: acts()},
		{Kind: add1, Match: vlan(6), Prio: 9, Owner: 4, Acts: acts()},
		{Kind: add1, Prio: 9, Owner: 3, Acts: acts(), Check: true},
		{Kind: add1, Prio: 9, Owner: 3, Acts: none()},
		{Kind: modify2, Owner: 3, Acts: acts()},
		{Kind: modify2, Match: vlan(5), Owner: 3, Acts: acts()},
		{Kind: modify2, Match: vlan(5), Owner: 3, Acts: none()},
		{Kind: modify2, Owner: 4, Acts: acts()},
		{Kind: modifyIt4, Match: vlan(6), Prio: 9, Owner: 3, Acts: acts()},
		{Kind: modifyIt4, Match: vlan(6), Prio: 8, Owner: 3, Acts: acts()},
		{Kind: delete3, Owner: 3, Acts: none()},
		{Kind: delete3, Match: vlan(5), Owner: 3, Acts: none()},
		{Kind: delete3, Owner: 4, Acts: none()},
		{Kind: deleteIt5, Match: vlan(6), Prio: 9, Owner: 3, Acts: none()},
		{Kind: deleteIt5, Match: vlan(6), Prio: 8, Owner: 3, Acts: none()},
		{Kind: deleteIt5, Match: vlan(6), Prio: 8, Owner: 3, Acts: acts()},
		{Kind: 6, Acts: acts()},
	}
}

// P7.1, P7.2, R4: no argument is changed, nor its room, nor its Acts.
func TestArgumentsStay(t *testing.T) {
	for _, m := range roomyMods() {
		for _, room := range []int{-1, 4, 5} {
			list := roomy()
			before, acts := kept(list), slices.Clone(m.Acts[:cap(m.Acts)])
			Apply(list, m, room)
			Touched(list, m)
			Sound(m)
			Same(m, m)
			if !reflect.DeepEqual(kept(list), before) {
				t.Errorf("%+v: the list became %+v", m, kept(list))
			}
			if !slices.Equal(m.Acts[:cap(m.Acts)], acts) {
				t.Errorf("%+v: the Acts became %+v", m, m.Acts[:cap(m.Acts)])
			}
		}
	}
}

// P7.2, R4: a result of Apply shares memory with no argument and no result of another call, the Acts included.
func TestResultsAreNew(t *testing.T) {
	for _, m := range roomyMods() {
		list := roomy()
		before, acts := kept(list), slices.Clone(m.Acts[:cap(m.Acts)])
		first, _ := Apply(list, m, 9)
		second, _ := Apply(list, m, 9)
		want := kept(second)
		spoil(first)
		if !reflect.DeepEqual(kept(list), before) || !slices.Equal(m.Acts[:cap(m.Acts)], acts) {
			t.Errorf("%+v: writing to the result changes an argument", m)
		}
		spoil(list)
		spoilActs(m.Acts)
		if !reflect.DeepEqual(kept(second), want) {
			t.Errorf("%+v: the result changes with another one or with an argument", m)
		}
	}
}

// P7.2, R4: the Acts of one rule of a result share nothing with those of another.
func TestActsApart(t *testing.T) {
	for _, m := range roomyMods() {
		got, _ := Apply(roomy(), m, 9)
		for i := range got {
			want := kept(got)
			spoilActs(got[i].Acts)
			after := kept(got)
			want[i].Acts, after[i].Acts = nil, nil
			if !reflect.DeepEqual(after, want) {
				t.Errorf("%+v: the Acts of rule %d are shared", m, i)
			}
		}
	}
}

// P7.1, R4: a result of Touched is not shared with another one.
func TestTouchedIsNew(t *testing.T) {
	list := roomy()
	m := api.Mod{Kind: delete3, Owner: 3}
	first, second := Touched(list, m), Touched(list, m)
	for i := range first[:cap(first)] {
		first[:cap(first)][i] = 99
	}
	if !slices.Equal(second, []int{0, 1, 2, 3}) || !slices.Equal(Touched(list, m), second) {
		t.Errorf("%v", second)
	}
}

// P7.1, P7.2, R5: nothing is kept: calls in another order have the same results.
func TestNothingKept(t *testing.T) {
	all := roomyMods()
	var first [][]api.Rule
	for _, m := range all {
		got, _ := Apply(roomy(), m, 9)
		first = append(first, got)
	}
	for i := len(all) - 1; i >= 0; i-- {
		got, _ := Apply(roomy(), all[i], 9)
		same(t, "once more", got, first[i])
	}
}
