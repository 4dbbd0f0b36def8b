package rule

import (
	"math"
	"math/rand"
	"reflect"
	"slices"
	"testing"

	"podesta/api"
	"podesta/cube"
)

// vlan is the cube of the headers with this VLAN.
func vlan(v uint64) api.Cube {
	c, _ := cube.With(cube.All(), api.Vlan, v, 12)
	return c
}

// from is the cube of the headers whose source has these highest bits.
func from(v uint64, bits int) api.Cube {
	c, _ := cube.With(cube.All(), api.Src, v, bits)
	return c
}

// whole is a sound rule in which every number and both lists are other than zero.
func whole() api.Rule {
	return api.Rule{
		Match: vlan(5), Prio: 7, Acts: []api.Act{{Kind: api.Set, Field: api.Vlan, Value: 9}, {Kind: api.Out, Port: 2}},
		Idle: 11, Hard: 12, Owner: 13, Hits: 14, Quiet: 15, Age: 16,
	}
}

// unsoundMatches is cubes that are not sound, each for one reason.
func unsoundMatches() []api.Cube {
	return []api.Cube{
		{Value: api.Head{api.Vlan: 1}},
		{Value: api.Head{api.Vlan: 3}, Care: api.Head{api.Vlan: 1}},
		{Value: api.Head{api.Src: 1}, Care: api.Head{api.Dst: 1}},
		{Care: api.Head{api.Vlan: 1 << 12}},
		{Value: api.Head{api.Vlan: 1 << 12}, Care: api.Head{api.Vlan: 1 << 12}},
		{Care: api.Head{api.DstPort: math.MaxUint64}},
	}
}

// unsoundActs is lists of actions that are not sound, each for one reason.
func unsoundActs() [][]api.Act {
	tell := api.Act{Kind: api.Tell}
	return [][]api.Act{
		{{}},
		{{Kind: 4}},
		{{Kind: api.Out}},
		{{Kind: api.Out, Port: api.MaxPorts + 1}},
		{{Kind: api.Set, Field: api.Fields}},
		{{Kind: api.Set, Field: api.Pcp, Value: 16}},
		{{Kind: api.Tell, Port: 1}},
		{tell, {Kind: -1}, tell},
		slices.Repeat([]api.Act{tell}, api.MaxActs+1),
	}
}

// bounds is the numbers of a rule with their greatest values.
func bounds() []struct {
	name string
	at   func(*api.Rule) *int
	most int
} {
	return []struct {
		name string
		at   func(*api.Rule) *int
		most int
	}{
		{"Prio", func(r *api.Rule) *int { return &r.Prio }, 65535},
		{"Idle", func(r *api.Rule) *int { return &r.Idle }, 1 << 20},
		{"Hard", func(r *api.Rule) *int { return &r.Hard }, 1 << 20},
		{"Owner", func(r *api.Rule) *int { return &r.Owner }, 255},
		{"Hits", func(r *api.Rule) *int { return &r.Hits }, math.MaxInt},
		{"Quiet", func(r *api.Rule) *int { return &r.Quiet }, math.MaxInt},
		{"Age", func(r *api.Rule) *int { return &r.Age }, math.MaxInt},
	}
}

// unsoundRules is rules that are not sound, each for one reason.
func unsoundRules() []api.Rule {
	var out []api.Rule
	for _, c := range unsoundMatches() {
		r := whole()
		r.Match = c
		out = append(out, r)
	}
	for _, acts := range unsoundActs() {
		r := whole()
		r.Acts = acts
		out = append(out, r)
	}
	for _, b := range bounds() {
		numbers := []int{-1, math.MinInt}
		if b.most < math.MaxInt {
			numbers = append(numbers, b.most+1, math.MaxInt)
		}
		for _, n := range numbers {
			r := whole()
			*b.at(&r) = n
			out = append(out, r)
		}
	}
	return out
}

// P5.1: each number just inside and just outside its bounds, the other parts being zero or not.
func TestSoundNumbers(t *testing.T) {
	for _, start := range []api.Rule{{}, whole()} {
		for _, b := range bounds() {
			for _, n := range []int{math.MinInt, -1 << 32, -2, -1, 0, 1, b.most - 1, b.most, b.most + 1, b.most + 2, math.MaxInt} {
				r := start
				*b.at(&r) = n
				if got, want := Sound(r), 0 <= n && n <= b.most; got != want {
					t.Errorf("%s %d: %v", b.name, n, got)
				}
			}
		}
	}
}

// P5.1: the Match and the Acts must be sound, whatever the rest is; no Acts and MaxActs of them are.
func TestSoundParts(t *testing.T) {
	for _, c := range []api.Cube{cube.All(), vlan(0), vlan(4095), from(10<<24, 8)} {
		for _, acts := range [][]api.Act{nil, {}, {{Kind: api.Tell}}, slices.Repeat([]api.Act{{Kind: api.Out, Port: 16}}, api.MaxActs)} {
			if !Sound(api.Rule{Match: c, Acts: acts}) {
				t.Errorf("%v with %v is not sound", c, acts)
			}
		}
	}
	for i, r := range unsoundRules() {
		if Sound(r) {
			t.Errorf("rule %d is sound: %+v", i, r)
		}
	}
	for _, c := range unsoundMatches() {
		if Sound(api.Rule{Match: c}) {
			t.Errorf("sound with the Match %v alone", c)
		}
	}
	for _, acts := range unsoundActs() {
		if Sound(api.Rule{Acts: acts}) {
			t.Errorf("sound with the Acts %v alone", acts)
		}
	}
}

// P5.1: a cross of what two rules can have alike: Key, Before and Overlap in both directions.
func TestTwoRules(t *testing.T) {
	all := cube.All()
	for _, c := range []struct {
		name                       string
		a, b                       api.Rule
		key, before, after, common bool
	}{
		{"zero rules", api.Rule{}, api.Rule{}, true, false, false, true},
		{"same Match, greater Prio", api.Rule{Prio: 9}, api.Rule{Prio: 5}, false, true, false, false},
		{"Prios one apart", api.Rule{Prio: 65535}, api.Rule{Prio: 65534}, false, true, false, false},
		{"same Prio, All and a VLAN", api.Rule{Match: all}, api.Rule{Match: vlan(5)}, false, true, false, true},
		{"same Prio, two VLANs", api.Rule{Match: vlan(5)}, api.Rule{Match: vlan(6)}, false, true, false, false},
		{"same Prio, a source inside another", api.Rule{Match: from(10<<24, 8)}, api.Rule{Match: from(10<<24|1<<16, 16)}, false, true, false, true},
		{"same Prio, sources apart", api.Rule{Match: from(10<<24, 8)}, api.Rule{Match: from(11<<24, 8)}, false, true, false, false},
		{"same Prio, crossing Matches", api.Rule{Match: from(10<<24, 8)}, api.Rule{Match: vlan(5)}, false, true, false, true},
		{"Care comes ahead of Value", api.Rule{Match: from(255<<24, 8)}, api.Rule{Match: from(0, 9)}, false, true, false, false},
		{"the Prio comes ahead of the Match", api.Rule{Prio: 2, Match: vlan(6)}, api.Rule{Prio: 1, Match: all}, false, true, false, false},
		{"same key, all else differs", whole(), api.Rule{Match: vlan(5), Prio: 7}, true, false, false, true},
		{"same key, other Hits", api.Rule{Hits: 3}, api.Rule{Hits: 4}, true, false, false, true},
		{"other Prio, Matches apart", api.Rule{Prio: 1, Match: vlan(5)}, api.Rule{Match: vlan(6)}, false, true, false, false},
	} {
		for _, turned := range []bool{false, true} {
			a, b, before, after := c.a, c.b, c.before, c.after
			if turned {
				a, b, before, after = b, a, after, before
			}
			if Key(a, b) != c.key {
				t.Errorf("%s, turned %v: Key is %v", c.name, turned, !c.key)
			}
			if Before(a, b) != before || Before(b, a) != after {
				t.Errorf("%s, turned %v: Before is %v, %v", c.name, turned, Before(a, b), Before(b, a))
			}
			if Overlap(a, b) != c.common {
				t.Errorf("%s, turned %v: Overlap is %v", c.name, turned, !c.common)
			}
		}
	}
}

// P5.1: the number of no other part counts for Key, Before and Overlap; that of the key does.
func TestTwoRulesOtherParts(t *testing.T) {
	for _, b := range bounds()[1:] {
		for _, n := range []int{-1, 0, 1, b.most} {
			r := whole()
			*b.at(&r) = n
			if !Key(r, whole()) || Before(r, whole()) || Before(whole(), r) || !Overlap(r, whole()) {
				t.Errorf("%s %d counts", b.name, n)
			}
		}
	}
	for _, acts := range append(unsoundActs(), nil) {
		r := whole()
		r.Acts = acts
		if !Key(r, whole()) || Before(r, whole()) || Before(whole(), r) || !Overlap(r, whole()) {
			t.Errorf("the Acts %v count", acts)
		}
	}
}

// P5.1, R1: rules that are not sound have keys and an order; an unsound Match contains no header, so nothing overlaps it.
func TestTwoRulesUnsound(t *testing.T) {
	for _, c := range unsoundMatches() {
		r := api.Rule{Match: c}
		if !Key(r, r) || Key(r, api.Rule{}) || Before(r, r) || Overlap(r, r) || Overlap(r, api.Rule{}) || Overlap(api.Rule{}, r) {
			t.Errorf("a rule with the Match %v", c)
		}
		if n := cube.Compare(c, cube.All()); Before(r, api.Rule{}) != (n < 0) || Before(api.Rule{}, r) != (n > 0) {
			t.Errorf("the Match %v is not in its place", c)
		}
	}
	least, greatest := api.Rule{Prio: math.MinInt}, api.Rule{Prio: math.MaxInt}
	if !Before(greatest, least) || Before(least, greatest) || Key(least, greatest) || Overlap(least, greatest) {
		t.Error("extreme Prios are not in order")
	}
	if !Before(api.Rule{}, least) || !Before(greatest, api.Rule{}) || !Overlap(least, least) {
		t.Error("an extreme Prio beside 0")
	}
}

// P5.1: tables, and lists that are none.
func TestTable(t *testing.T) {
	nine, five := api.Rule{Prio: 9, Match: vlan(5)}, api.Rule{Prio: 5}
	table := []api.Rule{nine, five, {Prio: 5, Match: vlan(1)}, {Prio: 5, Match: vlan(2)}, {Prio: 4, Match: vlan(2)}, {Match: vlan(2)}}
	for _, c := range []struct {
		name string
		list []api.Rule
		want bool
	}{
		{"nil", nil, true},
		{"empty", []api.Rule{}, true},
		{"one rule", []api.Rule{whole()}, true},
		{"the zero rule", []api.Rule{{}}, true},
		{"two rules", []api.Rule{nine, five}, true},
		{"turned round", []api.Rule{five, nine}, false},
		{"one rule twice", []api.Rule{five, five}, false},
		{"a key twice", []api.Rule{{Hits: 1}, {Hits: 2}}, false},
		{"six rules", table, true},
		{"overlapping rules", []api.Rule{{Match: from(10<<24, 8)}, {Match: vlan(5)}}, true},
		{"the last one first", []api.Rule{table[5], table[0], table[1]}, false},
		{"the first one again", append(slices.Clone(table), table[0]), false},
	} {
		if got := Table(c.list); got != c.want {
			t.Errorf("%s: %v", c.name, got)
		}
	}
	for i := range table {
		swapped := slices.Clone(table)
		j := (i + 1) % len(table)
		swapped[i], swapped[j] = swapped[j], swapped[i]
		if Table(swapped) {
			t.Errorf("a table with the rules %d and %d exchanged", i, j)
		}
	}
}

// P5.1: more rules than fit into a unit are still a table.
func TestTableLong(t *testing.T) {
	var list []api.Rule
	for n := range 10 * api.MaxRules {
		list = append(list, api.Rule{Prio: api.MaxPrio - n})
	}
	if !Table(list) {
		t.Error("no table")
	}
	if got := Sort(list); !Same(got, list) {
		t.Errorf("Sort returns %d rules", len(got))
	}
}

// P5.1: one rule that is not sound, anywhere, and the list is no table; Sort leaves it out, Find does not count it.
func TestUnsoundInList(t *testing.T) {
	for i, bad := range unsoundRules() {
		good := []api.Rule{{Prio: 20, Match: vlan(1)}, {Prio: 10, Match: vlan(2)}, {Prio: 1, Match: vlan(3)}}
		for place := range len(good) + 1 {
			// Between 10 and 1 a Prio of 7 is in its place: there soundness alone decides.
			list := slices.Insert(slices.Clone(good), place, bad)
			if Table(list) {
				t.Errorf("a table with the unsound rule %d at %d", i, place)
			}
			if got := Sort(list); !Same(got, good) {
				t.Errorf("Sort with the unsound rule %d at %d: %+v", i, place, got)
			}
		}
		if Table([]api.Rule{bad}) || len(Sort([]api.Rule{bad})) != 0 {
			t.Errorf("the unsound rule %d alone", i)
		}
	}
}

// P5.1: an unsound rule does not replace a sound one with the same key.
func TestSortUnsoundSameKey(t *testing.T) {
	for _, b := range bounds()[1:] {
		bad := whole()
		*b.at(&bad) = -1
		for _, list := range [][]api.Rule{{whole(), bad}, {bad, whole()}, {bad, whole(), bad}} {
			if got := Sort(list); !Same(got, []api.Rule{whole()}) {
				t.Errorf("%s: %+v", b.name, got)
			}
		}
	}
}

// P5.1: lists written out, sorted.
func TestSort(t *testing.T) {
	a := api.Rule{Prio: 9, Match: vlan(7)}
	b := api.Rule{Prio: 5, Hits: 1}
	c := api.Rule{Prio: 5, Match: vlan(1), Hits: 2}
	d := api.Rule{Prio: 5, Match: vlan(2), Hits: 3}
	e := api.Rule{Hits: 4}
	newB, newerB := b, b
	newB.Hits, newB.Owner, newB.Acts = 0, 4, []api.Act{{Kind: api.Tell}}
	newerB.Age = 100
	for _, s := range []struct {
		name       string
		list, want []api.Rule
	}{
		{"nil", nil, nil},
		{"empty", []api.Rule{}, nil},
		{"one", []api.Rule{b}, []api.Rule{b}},
		{"sorted", []api.Rule{a, b, c, d, e}, []api.Rule{a, b, c, d, e}},
		{"turned round", []api.Rule{e, d, c, b, a}, []api.Rule{a, b, c, d, e}},
		{"mixed", []api.Rule{c, e, a, d, b}, []api.Rule{a, b, c, d, e}},
		{"one rule twice", []api.Rule{b, b}, []api.Rule{b}},
		{"the last one counts", []api.Rule{b, newB}, []api.Rule{newB}},
		{"the last one counts, though it has less", []api.Rule{newB, b}, []api.Rule{b}},
		{"a key several times", []api.Rule{newB, a, b, e, newerB, d}, []api.Rule{a, newerB, d, e}},
		{"several keys several times", []api.Rule{b, e, newB, a, e, a, newerB, newB, a}, []api.Rule{a, newB, e}},
	} {
		if got := Sort(s.list); !Same(got, s.want) {
			t.Errorf("%s: %+v", s.name, got)
		}
	}
}

// anyRules is a list with few keys, so that there are keys several times; Hits tells its rules apart.
func anyRules(r *rand.Rand, most int) []api.Rule {
	list := make([]api.Rule, r.Intn(most+1))
	for i := range list {
		c := cube.All()
		switch r.Intn(5) {
		case 0:
			c = vlan(uint64(r.Intn(3)))
		case 1:
			c = from(uint64(r.Intn(4))<<30, r.Intn(3))
		case 2:
			c, _ = cube.With(vlan(uint64(r.Intn(2))), api.InPort, uint64(r.Intn(2)), 16)
		case 3:
			if r.Intn(4) == 0 {
				c = unsoundMatches()[r.Intn(len(unsoundMatches()))]
			}
		}
		list[i] = api.Rule{Match: c, Prio: r.Intn(4) - 1, Hits: i, Acts: []api.Act{{Kind: api.Out, Port: 1 + r.Intn(17)}}}
	}
	return list
}

// sortAsWritten takes the rules that count, and puts each of them behind all that are before it.
func sortAsWritten(list []api.Rule) []api.Rule {
	var kept []api.Rule
	for i, r := range list {
		last := true
		for _, later := range list[i+1:] {
			if Sound(later) && later.Prio == r.Prio && later.Match == r.Match {
				last = false
			}
		}
		if Sound(r) && last {
			kept = append(kept, r)
		}
	}
	out := make([]api.Rule, len(kept))
	for _, r := range kept {
		place := 0
		for _, other := range kept {
			if other.Prio > r.Prio || other.Prio == r.Prio && cube.Compare(other.Match, r.Match) < 0 {
				place++
			}
		}
		out[place] = r
	}
	return out
}

// P5.1: many lists of any order: Sort's result is a table, and as written.
func TestSortAsWritten(t *testing.T) {
	r := rand.New(rand.NewSource(5))
	for range 2000 {
		list := anyRules(r, 40)
		got := Sort(list)
		if !Table(got) {
			t.Fatalf("no table: %+v", got)
		}
		if want := sortAsWritten(list); !reflect.DeepEqual(got, want) {
			t.Fatalf("Sort(%+v): %+v", list, got)
		}
		if again := Sort(got); !Same(again, got) {
			t.Fatalf("sorted again: %+v", again)
		}
	}
}

// P5.1: a list is a table just if Sort leaves it as it is.
func TestTableAsSorted(t *testing.T) {
	r := rand.New(rand.NewSource(55))
	for range 3000 {
		list := anyRules(r, 4)
		if got := Table(list); got != reflect.DeepEqual(sortAsWritten(list), list) {
			t.Fatalf("Table(%+v) is %v", list, got)
		}
	}
}

// P5.1: the first rule that matches, in tables and other lists; example 1.
func TestFind(t *testing.T) {
	h := api.Head{api.Vlan: 5, api.Src: 10<<24 | 7}
	all, same, other, src := api.Rule{}, api.Rule{Match: vlan(5)}, api.Rule{Match: vlan(6)}, api.Rule{Match: from(10<<24, 8)}
	high := api.Rule{Prio: api.MaxPrio}
	for _, c := range []struct {
		name  string
		list  []api.Rule
		place int
		ok    bool
	}{
		{"nil", nil, 0, false},
		{"empty", []api.Rule{}, 0, false},
		{"one that matches", []api.Rule{same}, 0, true},
		{"one that does not", []api.Rule{other}, 0, false},
		{"none of several", []api.Rule{other, {Match: vlan(7)}, {Match: from(11<<24, 8)}}, 0, false},
		{"the last one", []api.Rule{other, other, all}, 2, true},
		{"the first of several", []api.Rule{other, src, same, all}, 1, true},
		{"the first one, not the most exact one", []api.Rule{all, same}, 0, true},
		{"the first one, not that with the greatest Prio", []api.Rule{other, all, high}, 1, true},
		{"one rule several times", []api.Rule{same, same, same}, 0, true},
	} {
		if n, ok := Find(c.list, h); n != c.place || ok != c.ok {
			t.Errorf("%s: %d, %v", c.name, n, ok)
		}
	}
}

// P5.1: what is not sound contains nothing, and is in nothing; the rest of a rule does not count for Find.
func TestFindUnsound(t *testing.T) {
	for _, c := range unsoundMatches() {
		for _, h := range []api.Head{{}, c.Value, c.Care} {
			if n, ok := Find([]api.Rule{{Match: c}}, h); n != 0 || ok {
				t.Errorf("%v is in %v", h, c)
			}
		}
		if n, ok := Find([]api.Rule{{Match: c}, {}}, api.Head{}); n != 1 || !ok {
			t.Errorf("behind %v: %d, %v", c, n, ok)
		}
	}
	for _, h := range []api.Head{{api.Vlan: 1 << 12}, {api.InPort: math.MaxUint64}, {api.DstPort: 1 << 63}} {
		if n, ok := Find([]api.Rule{{}, {Match: vlan(0)}}, h); n != 0 || ok {
			t.Errorf("%v is found at %d", h, n)
		}
	}
	for _, r := range unsoundRules()[len(unsoundMatches()):] {
		if n, ok := Find([]api.Rule{{Match: vlan(6)}, r}, api.Head{api.Vlan: 5}); n != 1 || !ok {
			t.Errorf("%+v is not found", r)
		}
	}
}

// P5.1: Find against each rule asked for itself.
func TestFindAsWritten(t *testing.T) {
	r := rand.New(rand.NewSource(555))
	for range 3000 {
		list := anyRules(r, 6)
		h := api.Head{api.Vlan: uint64(r.Intn(4)), api.Src: uint64(r.Intn(4)) << 30, api.InPort: uint64(r.Intn(3))}
		want := -1
		for i := len(list) - 1; i >= 0; i-- {
			if cube.Has(list[i].Match, h) {
				want = i
			}
		}
		if n, ok := Find(list, h); n != max(want, 0) || ok != (want >= 0) {
			t.Fatalf("Find(%+v, %v): %d, %v", list, h, n, ok)
		}
	}
}

// P5.1: a copy is equal, of whatever rules, and in the order of the list.
func TestCopy(t *testing.T) {
	for _, list := range [][]api.Rule{
		nil, {}, {{}}, {whole()}, {whole(), whole()}, {{Prio: 1}, {Prio: 2}, whole(), {Prio: 1}}, unsoundRules(), slices.Repeat(unsoundRules(), 20),
	} {
		got := Copy(list)
		if len(got) != len(list) || !Same(got, list) {
			t.Errorf("Copy(%+v): %+v", list, got)
		}
		for i := range got {
			if !reflect.DeepEqual(got[i], list[i]) {
				t.Errorf("rule %d: %+v", i, got[i])
			}
		}
	}
}

// P5.1: lists are equal if they have equal rules in the same order.
func TestSame(t *testing.T) {
	a, b := whole(), api.Rule{Prio: 3}
	noActs := b
	noActs.Acts = []api.Act{}
	for _, c := range []struct {
		name string
		a, b []api.Rule
		want bool
	}{
		{"nil and nil", nil, nil, true},
		{"nil and empty", nil, []api.Rule{}, true},
		{"nothing and a zero rule", nil, []api.Rule{{}}, false},
		{"itself", []api.Rule{a, b}, []api.Rule{a, b}, true},
		{"equal Acts elsewhere", []api.Rule{a}, []api.Rule{whole()}, true},
		{"nil and empty Acts", []api.Rule{b}, []api.Rule{noActs}, true},
		{"another order", []api.Rule{a, b}, []api.Rule{b, a}, false},
		{"shorter", []api.Rule{a, b}, []api.Rule{a}, false},
		{"without the first", []api.Rule{a, b}, []api.Rule{b}, false},
		{"one more time", []api.Rule{a, a}, []api.Rule{a}, false},
		{"unsound rules", unsoundRules(), unsoundRules(), true},
		{"fewer unsound rules", unsoundRules(), unsoundRules()[1:], false},
	} {
		if Same(c.a, c.b) != c.want || Same(c.b, c.a) != c.want {
			t.Errorf("%s: %v, %v", c.name, Same(c.a, c.b), Same(c.b, c.a))
		}
	}
}

// P5.1: one difference in one rule is enough, in any part and in any place.
func TestSameOnePart(t *testing.T) {
	changes := []func(*api.Rule){
		func(r *api.Rule) { r.Match.Value[api.Vlan] ^= 1 },
		func(r *api.Rule) { r.Match.Care[api.DstPort] ^= 1 },
		func(r *api.Rule) { r.Acts = nil },
		func(r *api.Rule) { r.Acts = r.Acts[:1] },
		func(r *api.Rule) { r.Acts = append(slices.Clone(r.Acts), api.Act{Kind: api.Tell}) },
		func(r *api.Rule) { r.Acts = []api.Act{r.Acts[1], r.Acts[0]} },
		func(r *api.Rule) { r.Acts = slices.Clone(r.Acts); r.Acts[1].Port++ },
	}
	for _, b := range bounds() {
		changes = append(changes, func(r *api.Rule) { *b.at(r)++ }, func(r *api.Rule) { *b.at(r) = -1 })
	}
	for i, change := range changes {
		for place := range 3 {
			list := []api.Rule{whole(), whole(), whole()}
			change(&list[place])
			other := []api.Rule{whole(), whole(), whole()}
			if Same(list, other) || Same(other, list) {
				t.Errorf("change %d at %d is not seen", i, place)
			}
		}
	}
}

// spoil overwrites a list and all its Acts, with what lies behind their ends.
func spoil(list []api.Rule) {
	for i := range list {
		acts := list[i].Acts[:cap(list[i].Acts)]
		for j := range acts {
			acts[j] = api.Act{Kind: -1}
		}
		list[i] = api.Rule{Prio: -1}
	}
	list = list[:cap(list)]
	for i := range list {
		list[i] = api.Rule{Prio: -2}
	}
}

// roomy is three rules, not sorted, one key twice, with room behind the list and behind each of its Acts.
func roomy() []api.Rule {
	acts := []api.Act{{Kind: api.Out, Port: 1}, {Kind: api.Tell}, {Kind: api.Out, Port: 3}, {Kind: api.Out, Port: 4}}
	list := []api.Rule{{Prio: 1}, {Prio: 2}, {Prio: 1, Hits: 9}, {Prio: 3}, {Prio: 4}}
	for i := range list {
		list[i].Acts = slices.Clone(acts)[:2]
	}
	return list[:3]
}

// kept is everything that a list reaches, its room included.
func kept(list []api.Rule) []api.Rule {
	out := slices.Clone(list[:cap(list)])
	for i := range out {
		out[i].Acts = slices.Clone(out[i].Acts[:cap(out[i].Acts)])
	}
	return out
}

// P5.1, R4: no argument is changed, nor its room, nor its Acts.
func TestArgumentsStay(t *testing.T) {
	list, other := roomy(), roomy()
	before := kept(list)
	Sort(list)
	Copy(list)
	Table(list)
	Find(list, api.Head{})
	Same(list, other)
	Same(other, list)
	for _, r := range list {
		Sound(r)
		Key(r, list[0])
		Before(r, list[0])
		Overlap(r, list[0])
	}
	if !reflect.DeepEqual(kept(list), before) {
		t.Errorf("the list became %+v", kept(list))
	}
}

// P5.1, R4: what Sort and Copy return shares memory with nothing else: neither list nor Acts.
func TestResultsAreNew(t *testing.T) {
	for name, call := range map[string]func([]api.Rule) []api.Rule{"Sort": Sort, "Copy": Copy} {
		list := roomy()
		before := kept(list)
		want := kept(call(list))
		first, second := call(list), call(list)
		spoil(first)
		if !reflect.DeepEqual(kept(list), before) {
			t.Errorf("%s: writing to a result changes the argument", name)
		}
		if !reflect.DeepEqual(kept(second), want) {
			t.Errorf("%s: writing to a result changes another one", name)
		}
		spoil(list)
		if !reflect.DeepEqual(kept(second), want) {
			t.Errorf("%s: writing to the argument changes a result", name)
		}
	}
}

// P5.1, R4: rules of an argument that share their Acts have Acts of their own in a result.
func TestActsApart(t *testing.T) {
	acts := []api.Act{{Kind: api.Out, Port: 1}, {Kind: api.Tell}}
	list := []api.Rule{{Prio: 2, Acts: acts}, {Prio: 1, Acts: acts}}
	for name, call := range map[string]func([]api.Rule) []api.Rule{"Sort": Sort, "Copy": Copy} {
		got := call(list)
		got[0].Acts[0].Port = 16
		if got[1].Acts[0].Port != 1 || acts[0].Port != 1 {
			t.Errorf("%s: the rules share their Acts", name)
		}
	}
}

// P5.1, R5: the same calls have the same results.
func TestRepeated(t *testing.T) {
	list := anyRules(rand.New(rand.NewSource(5)), 40)
	first := Sort(list)
	for range 10 {
		if !reflect.DeepEqual(Sort(list), first) {
			t.Fatal("Sort has another result")
		}
	}
}
