package lapse

import (
	"math"
	"math/big"
	"math/rand"
	"reflect"
	"slices"
	"testing"

	"podesta/api"
	"podesta/cube"
	"podesta/rule"
)

// top is 2^62, where counting stops.
const top = 4611686018427387904

// longest is 2^20, the most that one Tick lets pass.
const longest = 1048576

// vlan is the cube of the headers with this VLAN.
func vlan(v uint64) api.Cube {
	c, _ := cube.With(cube.All(), api.Vlan, v, 12)
	return c
}

// whole is a sound rule in which every number and both lists are other than zero.
func whole() api.Rule {
	return api.Rule{
		Match: vlan(5), Prio: 7, Acts: []api.Act{{Kind: api.Set, Field: api.Vlan, Value: 9}, {Kind: api.Out, Port: 2}},
		Idle: 110, Hard: 120, Owner: 13, Hits: 14, Quiet: 15, Age: 16,
	}
}

// same complains of a list that is not as it should be.
func same(t *testing.T, what string, got, want []api.Rule) {
	t.Helper()
	if !rule.Same(got, want) {
		t.Errorf("%s: %+v, not %+v", what, got, want)
	}
}

// P6.1: the chapter's example: with Idle 5 a rule is there after 4 ticks, and gone after 5, one by one or at once.
func TestExample(t *testing.T) {
	list := []api.Rule{{Idle: 5}}
	for n := 1; n <= 4; n++ {
		left, gone := Tick(list, 1)
		same(t, "left", left, []api.Rule{{Idle: 5, Quiet: n, Age: n}})
		same(t, "gone", gone, nil)
		list = left
	}
	want := []api.Rule{{Idle: 5, Quiet: 5, Age: 5}}
	left, gone := Tick(list, 1)
	same(t, "left at last", left, nil)
	same(t, "gone at last", gone, want)
	left, gone = Tick([]api.Rule{{Idle: 5}}, 5)
	same(t, "left at once", left, nil)
	same(t, "gone at once", gone, want)
}

// P6.1: a hit puts off the idle end, but not the hard one.
func TestHitPutsOff(t *testing.T) {
	list := []api.Rule{{Prio: 2, Idle: 5}, {Prio: 1, Hard: 5}}
	list, _ = Tick(list, 4)
	list = Hit(Hit(list, 0), 1)
	left, gone := Tick(list, 4)
	same(t, "left", left, []api.Rule{{Prio: 2, Idle: 5, Hits: 1, Quiet: 4, Age: 8}})
	same(t, "gone", gone, []api.Rule{{Prio: 1, Hard: 5, Hits: 1, Quiet: 4, Age: 8}})
	left, gone = Tick(left, 1)
	same(t, "left later", left, nil)
	same(t, "gone later", gone, []api.Rule{{Prio: 2, Idle: 5, Hits: 1, Quiet: 5, Age: 9}})
}

// P6.1: n is limited to the range from 0 to MaxTime.
func TestTickRange(t *testing.T) {
	for _, c := range []struct{ n, passed int }{
		{math.MinInt, 0}, {-1 << 32, 0}, {-longest, 0}, {-2, 0}, {-1, 0}, {0, 0}, {1, 1}, {2, 2}, {1000, 1000},
		{longest - 1, longest - 1}, {longest, longest}, {longest + 1, longest}, {2 * longest, longest}, {1 << 32, longest},
		{top, longest}, {math.MaxInt - 1, longest}, {math.MaxInt, longest},
	} {
		for _, start := range []api.Rule{{}, {Age: 3, Quiet: 2, Hits: 1}, {Age: -3, Quiet: -2, Hits: -1}} {
			want := start
			want.Age += c.passed
			want.Quiet += c.passed
			left, gone := Tick([]api.Rule{start}, c.n)
			same(t, "left", left, []api.Rule{want})
			same(t, "gone", gone, nil)
		}
	}
}

// P6.1: the greatest limit is reached by the greatest n, and not by one less; a greater n does not reach a greater limit.
func TestTickRangeLimits(t *testing.T) {
	for _, r := range []api.Rule{{Hard: longest}, {Idle: longest}} {
		for _, n := range []int{longest - 1, longest, longest + 1, math.MaxInt} {
			_, gone := Tick([]api.Rule{r}, n)
			if (len(gone) == 1) != (n >= longest) {
				t.Errorf("Idle %d, Hard %d after %d: %+v", r.Idle, r.Hard, n, gone)
			}
		}
	}
	for _, r := range []api.Rule{{Hard: longest + 1}, {Idle: longest + 1}} {
		left, gone := Tick([]api.Rule{r}, math.MaxInt)
		if len(left) != 1 || len(gone) != 0 {
			t.Errorf("Idle %d, Hard %d: gone too early", r.Idle, r.Hard)
		}
	}
}

// P6.1: a limit against a time that comes to just below it, to it and to just above it, by any n; 0 and less is no limit.
func TestTickLimits(t *testing.T) {
	for _, limit := range []int{math.MinInt, -1000, -1, 0, 1, 2, 5, 1000, longest - 1, longest, longest + 1, top - 1, top, top + 1, math.MaxInt} {
		for _, n := range []int{-7, 0, 1, 2, 5, longest, longest + 7} {
			passed := min(max(n, 0), longest)
			for _, from := range []int{-2, -1, 0, 1, 2} {
				time := limit + from
				if from > 0 && time < limit || from < 0 && time > limit || time > top || time < math.MinInt+2*longest {
					continue
				}
				want := limit > 0 && time >= limit
				hard := api.Rule{Hard: limit, Age: time - passed, Quiet: 77}
				if _, gone := Tick([]api.Rule{hard}, n); (len(gone) == 1) != want {
					t.Errorf("Hard %d, Age %d, after %d: %v", limit, hard.Age, n, !want)
				}
				idle := api.Rule{Idle: limit, Quiet: time - passed, Age: 77}
				if _, gone := Tick([]api.Rule{idle}, n); (len(gone) == 1) != want {
					t.Errorf("Idle %d, Quiet %d, after %d: %v", limit, idle.Quiet, n, !want)
				}
			}
		}
	}
}

// P6.1: gone by both, by one, by none; Hard is held against Age and Idle against Quiet alone.
func TestTickBoth(t *testing.T) {
	for _, c := range []struct {
		name                   string
		hard, idle, age, quiet int
		want                   bool
	}{
		{"by both", 10, 5, 9, 4, true},
		{"by Hard", 10, 5, 9, 3, true},
		{"by Idle", 10, 5, 8, 4, true},
		{"by none", 10, 5, 8, 3, false},
		{"by Hard, no Idle", 10, 0, 9, 100, true},
		{"by none, no Idle", 10, 0, 8, 100, false},
		{"by Idle, no Hard", 0, 5, 100, 4, true},
		{"by none, no Hard", 0, 5, 100, 3, false},
		{"no limits", 0, 0, 100, 100, false},
		{"no limits, no time", 0, 0, -1, -1, false},
		{"Hard above Age, but not above Quiet", 10, 20, 5, 15, false},
		{"Idle above Quiet, but not above Age", 20, 10, 15, 5, false},
		{"negative limits", -10, -5, 100, 100, false},
		{"a negative Idle, gone by Hard", 10, -5, 9, 100, true},
		{"a negative Hard, gone by Idle", -10, 5, 100, 4, true},
		{"negative times", 1, 1, -5, -5, false},
	} {
		r := whole()
		r.Hard, r.Idle, r.Age, r.Quiet = c.hard, c.idle, c.age, c.quiet
		older := r
		older.Age++
		older.Quiet++
		left, gone := Tick([]api.Rule{r}, 1)
		if c.want {
			same(t, c.name+", left", left, nil)
			same(t, c.name+", gone", gone, []api.Rule{older})
		} else {
			same(t, c.name+", left", left, []api.Rule{older})
			same(t, c.name+", gone", gone, nil)
		}
	}
}

// P6.1: rules that have reached their limits are gone though no time passes, and the others are as they were.
func TestTickNoTime(t *testing.T) {
	list := []api.Rule{{Prio: 5, Hard: 3, Age: 3}, {Prio: 4, Hard: 3, Age: 2}, {Prio: 3, Idle: 3, Quiet: 4}, {Prio: 2, Idle: 3, Quiet: 2}, {Prio: 1}}
	for _, n := range []int{math.MinInt, -1, 0} {
		left, gone := Tick(list, n)
		same(t, "left", left, []api.Rule{list[1], list[3], list[4]})
		same(t, "gone", gone, []api.Rule{list[0], list[2]})
	}
}

// P6.1: left and gone are in the order of the list, be it a table or not, and a rule several times is there as often.
func TestTickOrder(t *testing.T) {
	short, long := api.Rule{Hard: 2}, api.Rule{Hard: 9}
	for _, prios := range [][]int{{9, 8, 7, 6, 5, 4}, {4, 5, 6, 7, 8, 9}, {3, 9, 1, 9, 3, 9}, {1, 1, 1, 1, 1, 1}} {
		for picked := range 1 << len(prios) {
			var list, left, gone []api.Rule
			for i, prio := range prios {
				r, to := long, &left
				if picked>>i&1 == 1 {
					r, to = short, &gone
				}
				r.Prio = prio
				list = append(list, r)
				r.Age, r.Quiet = 2, 2
				*to = append(*to, r)
			}
			gotLeft, gotGone := Tick(list, 2)
			same(t, "left", gotLeft, left)
			same(t, "gone", gotGone, gone)
		}
	}
}

// P6.1: nothing but Age and Quiet is changed by Tick, in left and in gone; nothing but Hits and Quiet by Hit.
func TestOtherParts(t *testing.T) {
	stays, goes := whole(), whole()
	goes.Prio, goes.Age = 6, 118
	left, gone := Tick([]api.Rule{stays, goes}, 2)
	stays.Age, stays.Quiet, goes.Age, goes.Quiet = 18, 17, 120, 17
	if !reflect.DeepEqual(left, []api.Rule{stays}) || !reflect.DeepEqual(gone, []api.Rule{goes}) {
		t.Errorf("Tick: %+v, %+v", left, gone)
	}
	hit := whole()
	hit.Hits, hit.Quiet = 15, 0
	if got := Hit([]api.Rule{whole()}, 0); !reflect.DeepEqual(got, []api.Rule{hit}) {
		t.Errorf("Hit: %+v", got)
	}
}

// P6.1: nil and empty lists.
func TestNothing(t *testing.T) {
	for _, list := range [][]api.Rule{nil, {}, make([]api.Rule, 0, 5)} {
		for _, n := range []int{math.MinInt, -1, 0, 1, longest, math.MaxInt} {
			left, gone := Tick(list, n)
			if len(left) != 0 || len(gone) != 0 {
				t.Errorf("Tick by %d: %+v, %+v", n, left, gone)
			}
			if got := Hit(list, n); len(got) != 0 {
				t.Errorf("Hit of %d: %+v", n, got)
			}
		}
	}
}

// P6.1: each index of a list: that rule is hit, the others are as they were.
func TestHitPlaces(t *testing.T) {
	list := []api.Rule{whole(), {Prio: 2, Quiet: 4}, {Prio: 9, Hits: 3, Age: 8}, whole(), {}}
	for at := range list {
		want := slices.Clone(list)
		want[at].Hits++
		want[at].Quiet = 0
		same(t, "Hit", Hit(list, at), want)
	}
	same(t, "the only one", Hit([]api.Rule{{Quiet: 3}}, 0), []api.Rule{{Hits: 1}})
}

// P6.1: where there is no such index, all rules are as they were.
func TestHitNoPlace(t *testing.T) {
	for _, list := range [][]api.Rule{{whole()}, {whole(), {Prio: 2, Quiet: 4}, {Prio: 1, Quiet: 5, Hits: 6}}} {
		for _, at := range []int{math.MinInt, -1 << 32, -len(list), -2, -1, len(list), len(list) + 1, 1 << 32, math.MaxInt} {
			same(t, "Hit", Hit(list, at), list)
		}
	}
	roomy := []api.Rule{{Prio: 2}, {Prio: 1}}[:1]
	same(t, "behind the end, with room", Hit(roomy, 1), []api.Rule{{Prio: 2}})
}

// P6.1: a hit takes no rule away, even one that should be gone, and leaves its Age.
func TestHitTakesNothing(t *testing.T) {
	list := []api.Rule{{Hard: 3, Age: 9, Idle: 3, Quiet: 9}, {Hard: 1, Age: 1}}
	same(t, "Hit", Hit(list, 0), []api.Rule{{Hard: 3, Age: 9, Idle: 3, Hits: 1}, {Hard: 1, Age: 1}})
}

// P6.1: sums that stay below 2^62, reach it, pass it; numbers that are above it already are unchanged.
func TestTickTop(t *testing.T) {
	for _, c := range []struct{ from, n, to int }{
		{top - 2, 1, top - 1},
		{top - 1, 1, top},
		{top - 1, 2, top},
		{top - 1, 0, top - 1},
		{top, 0, top},
		{top, 1, top},
		{top, longest, top},
		{top, math.MaxInt, top},
		{top + 1, 0, top + 1},
		{top + 1, 1, top + 1},
		{top + 1, longest, top + 1},
		{top + 1, -1, top + 1},
		{top - longest - 1, longest, top - 1},
		{top - longest, longest, top},
		{top - longest + 1, longest, top},
		{top - longest - 1, longest + 1, top - 1},
		{math.MaxInt - 1, 1, math.MaxInt - 1},
		{math.MaxInt, 0, math.MaxInt},
		{math.MaxInt, 1, math.MaxInt},
		{math.MaxInt, math.MaxInt, math.MaxInt},
		{math.MinInt, 0, math.MinInt},
		{math.MinInt, 1, math.MinInt + 1},
		{math.MinInt, math.MaxInt, math.MinInt + longest},
		{-top, longest, -top + longest},
		{-1, 1, 0},
	} {
		left, _ := Tick([]api.Rule{{Age: c.from, Quiet: 3, Hits: top + 3}}, c.n)
		same(t, "Age", left, []api.Rule{{Age: c.to, Quiet: 3 + min(max(c.n, 0), longest), Hits: top + 3}})
		left, _ = Tick([]api.Rule{{Quiet: c.from, Age: 3, Hits: top + 3}}, c.n)
		same(t, "Quiet", left, []api.Rule{{Quiet: c.to, Age: 3 + min(max(c.n, 0), longest), Hits: top + 3}})
	}
}

// P6.1: a rule at the top is gone by any limit up to there, and stays with a greater one, which no time reaches.
func TestTickTopLimits(t *testing.T) {
	for _, limit := range []int{1, longest, top - 1, top} {
		for _, r := range []api.Rule{{Hard: limit, Age: top - 1}, {Idle: limit, Quiet: top - 1}} {
			if _, gone := Tick([]api.Rule{r}, 9); len(gone) != 1 {
				t.Errorf("%+v stays", r)
			}
		}
	}
	for _, r := range []api.Rule{{Hard: top + 1, Age: top - 1}, {Idle: top + 1, Quiet: top - 1}} {
		if left, _ := Tick([]api.Rule{r}, 9); len(left) != 1 {
			t.Errorf("%+v is gone", r)
		}
	}
	for _, r := range []api.Rule{{Hard: math.MaxInt, Age: math.MaxInt}, {Idle: math.MaxInt, Quiet: math.MaxInt}} {
		if _, gone := Tick([]api.Rule{r}, 9); len(gone) != 1 {
			t.Errorf("%+v stays", r)
		}
	}
}

// P6.1: Hits around 2^62 and at the ends of the numbers; Quiet becomes 0 from anywhere.
func TestHitTop(t *testing.T) {
	for _, c := range []struct{ from, to int }{
		{0, 1}, {1, 2}, {-1, 0}, {-2, -1}, {math.MinInt, math.MinInt + 1}, {1<<31 - 1, 1 << 31}, {1<<32 - 1, 1 << 32},
		{top - 2, top - 1}, {top - 1, top}, {top, top}, {top + 1, top + 1}, {math.MaxInt - 1, math.MaxInt - 1}, {math.MaxInt, math.MaxInt},
	} {
		for _, quiet := range []int{math.MinInt, -1, 0, 1, top, top + 1, math.MaxInt} {
			list := []api.Rule{{Hits: c.from, Quiet: quiet, Age: top + 5}}
			same(t, "Hit", Hit(list, 0), []api.Rule{{Hits: c.to, Age: top + 5}})
		}
	}
}

// unsound is rules that are not sound, for all sorts of reasons.
func unsound() []api.Rule {
	return []api.Rule{
		{Match: api.Cube{Value: api.Head{api.Vlan: 1}}, Hard: 5},
		{Match: api.Cube{Care: api.Head{api.DstPort: math.MaxUint64}}, Idle: 5},
		{Prio: -1, Hard: 2},
		{Prio: api.MaxPrio + 1, Idle: 2},
		{Acts: []api.Act{{}}, Hard: 1},
		{Acts: slices.Repeat([]api.Act{{Kind: api.Tell}}, api.MaxActs+1)},
		{Owner: -1, Hard: 1},
		{Owner: api.MaxOwner + 1},
		{Idle: -1, Hard: -1},
		{Idle: api.MaxTime + 1, Quiet: api.MaxTime},
		{Hard: api.MaxTime + 1, Age: api.MaxTime},
		{Hits: -1, Idle: 1},
		{Quiet: -5, Idle: 5},
		{Age: -5, Hard: 5},
	}
}

// P6.1, R1: rules that are not sound are counted, lapse and stay like others.
func TestUnsound(t *testing.T) {
	list := unsound()
	for _, n := range []int{-1, 0, 1, 2, 5, 10, longest} {
		left, gone := Tick(list, n)
		wantLeft, wantGone := asWritten(list, n)
		same(t, "left", left, wantLeft)
		same(t, "gone", gone, wantGone)
	}
	for at := range list {
		want := unsound()
		want[at].Hits++
		want[at].Quiet = 0
		same(t, "Hit", Hit(list, at), want)
	}
}

// sum is a + n in numbers without end, as the chapter limits it.
func sum(a, n int) int {
	n = min(max(n, 0), longest)
	total := new(big.Int).Add(big.NewInt(int64(a)), big.NewInt(int64(n)))
	if total.Cmp(big.NewInt(top)) <= 0 {
		return int(total.Int64())
	}
	return max(a, top)
}

// asWritten is Tick in the words of the chapter, without a word on memory.
func asWritten(list []api.Rule, n int) (left, gone []api.Rule) {
	for _, r := range list {
		r.Age, r.Quiet = sum(r.Age, n), sum(r.Quiet, n)
		switch {
		case r.Hard > 0 && !(r.Hard > r.Age):
			gone = append(gone, r)
		case r.Idle > 0 && !(r.Idle > r.Quiet):
			gone = append(gone, r)
		default:
			left = append(left, r)
		}
	}
	return left, gone
}

// anyNumber is small mostly, and otherwise near one of the places where something changes.
func anyNumber(r *rand.Rand) int {
	if r.Intn(3) > 0 {
		return r.Intn(12) - 2
	}
	places := []int{math.MinInt + 3, -top, -longest, 0, longest, top - longest, top, math.MaxInt - 3}
	return places[r.Intn(len(places))] + r.Intn(7) - 3
}

// anyRules is a list of rules with any numbers; most are not sound, and the list is no table.
func anyRules(r *rand.Rand, most int) []api.Rule {
	list := make([]api.Rule, r.Intn(most+1))
	for i := range list {
		list[i] = api.Rule{
			Match: vlan(uint64(r.Intn(3))), Prio: r.Intn(5) - 1, Owner: r.Intn(3), Acts: []api.Act{{Kind: api.Out, Port: i}},
			Idle: anyNumber(r), Hard: anyNumber(r), Hits: anyNumber(r), Quiet: anyNumber(r), Age: anyNumber(r),
		}
	}
	return list
}

// P6.1: many lists and numbers: both functions do as written.
func TestAsWritten(t *testing.T) {
	r := rand.New(rand.NewSource(6))
	for range 5000 {
		list, n := anyRules(r, 8), anyNumber(r)
		left, gone := Tick(list, n)
		wantLeft, wantGone := asWritten(list, n)
		same(t, "left", left, wantLeft)
		same(t, "gone", gone, wantGone)
		at := r.Intn(len(list)+4) - 2
		want := slices.Clone(list)
		if at >= 0 && at < len(list) {
			want[at].Hits, want[at].Quiet = sum(want[at].Hits, 1), 0
		}
		same(t, "Hit", Hit(list, at), want)
		if t.Failed() {
			t.Fatalf("list %+v, n %d, at %d", list, n, at)
		}
	}
}

// owners is the Owners of both lists, ascending.
func owners(a, b []api.Rule) []int {
	var out []int
	for _, r := range append(slices.Clone(a), b...) {
		out = append(out, r.Owner)
	}
	slices.Sort(out)
	return out
}

// P6.1: time in two parts, if together it is no more than one Tick can pass, leaves and takes the same rules as at once.
func TestTickParts(t *testing.T) {
	r := rand.New(rand.NewSource(66))
	for range 3000 {
		list := anyRules(r, 8)
		for i := range list {
			list[i].Owner = i
		}
		whole := []int{0, 1, 2, 5, 9, longest - 1, longest}[r.Intn(7)]
		part := r.Intn(whole + 1)
		left, gone := Tick(list, whole)
		first, early := Tick(list, part)
		second, late := Tick(first, whole-part)
		same(t, "left", second, left)
		if !slices.Equal(owners(early, late), owners(gone, nil)) {
			t.Errorf("gone in parts %v and %v, at once %v", early, late, gone)
		}
		if t.Failed() {
			t.Fatalf("list %+v, %d of %d", list, part, whole)
		}
	}
}

// P6.1: moment by moment up to the limits; a rule is gone once, at its moment.
func TestTickByOne(t *testing.T) {
	var list []api.Rule
	for n := range 30 {
		list = append(list, api.Rule{Prio: 100 - n, Hard: n}, api.Rule{Prio: 50 - n, Idle: n})
	}
	for moment := 1; moment <= 30; moment++ {
		left, gone := Tick(list, 1)
		want := []api.Rule{
			{Prio: 100 - moment, Hard: moment, Age: moment, Quiet: moment},
			{Prio: 50 - moment, Idle: moment, Age: moment, Quiet: moment},
		}
		if moment == 30 {
			want = nil
		}
		same(t, "gone", gone, want)
		list = left
	}
	same(t, "left", list, []api.Rule{{Prio: 100, Age: 30, Quiet: 30}, {Prio: 50, Age: 30, Quiet: 30}})
}

// P6.1: a list of any length.
func TestLong(t *testing.T) {
	var list []api.Rule
	for n := range 50 * api.MaxRules {
		list = append(list, api.Rule{Prio: n, Hard: n % 2})
	}
	left, gone := Tick(list, 1)
	if len(left) != 25*api.MaxRules || len(gone) != 25*api.MaxRules {
		t.Errorf("%d left, %d gone", len(left), len(gone))
	}
	got := Hit(list, len(list)-1)
	if len(got) != len(list) || got[len(got)-1].Hits != 1 {
		t.Errorf("Hit: %d rules", len(got))
	}
}

// P6.1: what is left of a table is a table, and so are what is gone and a table that was hit.
func TestTablesStay(t *testing.T) {
	r := rand.New(rand.NewSource(666))
	for range 500 {
		list := anyRules(r, 12)
		for i := range list {
			list[i] = api.Rule{Match: list[i].Match, Prio: max(0, list[i].Prio), Idle: r.Intn(5), Hard: r.Intn(5), Age: r.Intn(3), Quiet: r.Intn(3)}
		}
		list = rule.Sort(list)
		left, gone := Tick(list, r.Intn(4))
		if !rule.Table(left) || !rule.Table(gone) || !rule.Table(Hit(list, r.Intn(12))) {
			t.Fatalf("no table of %+v", list)
		}
	}
}

// roomy is four rules, two of which are gone after one tick, with room behind the list and behind each of their Acts.
func roomy() []api.Rule {
	acts := []api.Act{{Kind: api.Out, Port: 1}, {Kind: api.Tell}, {Kind: api.Out, Port: 3}, {Kind: api.Out, Port: 4}}
	list := []api.Rule{{Prio: 9, Quiet: 3}, {Prio: 8, Hard: 1}, {Prio: 7, Idle: 1}, {Prio: 6, Hits: 9}, {Prio: 5}, {Prio: 4}}
	for i := range list {
		list[i].Acts = slices.Clone(acts)[:2]
	}
	return list[:4]
}

// kept is everything that a list reaches, its room included.
func kept(list []api.Rule) []api.Rule {
	out := slices.Clone(list[:cap(list)])
	for i := range out {
		out[i].Acts = slices.Clone(out[i].Acts[:cap(out[i].Acts)])
	}
	return out
}

// spoil overwrites a list and all its Acts, with what lies behind their ends.
func spoil(list []api.Rule) {
	list = list[:cap(list)]
	for i := range list {
		acts := list[i].Acts[:cap(list[i].Acts)]
		for j := range acts {
			acts[j] = api.Act{Kind: -1}
		}
		list[i] = api.Rule{Prio: -1}
	}
}

// calls is the ways to get results from a list, each with all its lists.
func calls() map[string]func([]api.Rule) [][]api.Rule {
	tick := func(n int) func([]api.Rule) [][]api.Rule {
		return func(list []api.Rule) [][]api.Rule {
			left, gone := Tick(list, n)
			return [][]api.Rule{left, gone}
		}
	}
	hit := func(at int) func([]api.Rule) [][]api.Rule {
		return func(list []api.Rule) [][]api.Rule { return [][]api.Rule{Hit(list, at)} }
	}
	return map[string]func([]api.Rule) [][]api.Rule{
		"Tick by -1": tick(-1), "Tick by 0": tick(0), "Tick by 1": tick(1), "Tick by MaxInt": tick(math.MaxInt),
		"Hit of -1": hit(-1), "Hit of 0": hit(0), "Hit of 3": hit(3), "Hit of 4": hit(4),
	}
}

// P6.1, R4: no argument is changed, nor its room, nor its Acts.
func TestArgumentsStay(t *testing.T) {
	for name, call := range calls() {
		list := roomy()
		before := kept(list)
		call(list)
		if !reflect.DeepEqual(kept(list), before) {
			t.Errorf("%s: the list became %+v", name, kept(list))
		}
	}
}

// P6.1, R4: a result shares memory with no argument and no result of another call, the Acts included.
func TestResultsAreNew(t *testing.T) {
	for name, call := range calls() {
		list := roomy()
		before := kept(list)
		first, second := call(list), call(list)
		var want [][]api.Rule
		for _, l := range second {
			want = append(want, kept(l))
		}
		for _, l := range first {
			spoil(l)
		}
		if !reflect.DeepEqual(kept(list), before) {
			t.Errorf("%s: writing to a result changes the argument", name)
		}
		spoil(list)
		for i, l := range second {
			if !reflect.DeepEqual(kept(l), want[i]) {
				t.Errorf("%s: list %d of the result changes with another one", name, i)
			}
		}
	}
}

// P6.1, R4: left and gone share nothing with each other, not even behind their ends.
func TestLeftAndGoneApart(t *testing.T) {
	left, gone := Tick(roomy(), 1)
	want := kept(gone)
	spoil(left)
	if !reflect.DeepEqual(kept(gone), want) {
		t.Error("writing to left changes gone")
	}
	left, gone = Tick(roomy(), 1)
	want = kept(left)
	spoil(gone)
	if !reflect.DeepEqual(kept(left), want) {
		t.Error("writing to gone changes left")
	}
}

// P6.1, R4: rules of an argument that share their Acts have Acts of their own in a result.
func TestActsApart(t *testing.T) {
	acts := []api.Act{{Kind: api.Out, Port: 1}, {Kind: api.Tell}}
	list := []api.Rule{{Prio: 4, Acts: acts}, {Prio: 3, Acts: acts}, {Prio: 2, Hard: 1, Acts: acts}, {Prio: 1, Hard: 1, Acts: acts}}
	for name, call := range calls() {
		var rules []api.Rule
		for _, l := range call(list) {
			rules = append(rules, l...)
		}
		if len(rules) != len(list) {
			t.Fatalf("%s: %d rules", name, len(rules))
		}
		for i := range rules {
			rules[i].Acts[0].Port = 10 + i
		}
		for i := range rules {
			if rules[i].Acts[0].Port != 10+i {
				t.Errorf("%s: rule %d shares its Acts", name, i)
			}
		}
		if acts[0].Port != 1 {
			t.Errorf("%s: the Acts of the argument changed", name)
		}
	}
}

// P6.1, R5: the same calls have the same results.
func TestRepeated(t *testing.T) {
	list := roomy()
	for name, call := range calls() {
		first := call(list)
		for range 5 {
			if !reflect.DeepEqual(call(list), first) {
				t.Fatalf("%s: another result", name)
			}
		}
	}
}
