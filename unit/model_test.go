package unit

import (
	"math"
	"math/rand"
	"reflect"
	"slices"
	"testing"

	"podesta/act"
	"podesta/api"
	"podesta/code"
	"podesta/cube"
	"podesta/lapse"
	"podesta/mods"
	"podesta/rule"
)

// model is a unit as the chapter describes it, as directly as can be.
type model struct {
	room  int
	base  []api.Rule
	order []int // the open transactions, as they were opened
	sent  []sending
	dead  map[int]bool // the open transactions of which a change was refused
	fails bool
}

// sending is a change that was sent for an open transaction.
type sending struct {
	id  int
	mod api.Mod
}

// newModel is what New says.
func newModel(room int) *model {
	if room < 0 {
		room = 0
	}
	if room > 32 {
		room = 32
	}
	return &model{room: room, dead: map[int]bool{}}
}

// changesOf is the changes that were sent for the transaction, in order.
func (o *model) changesOf(id int) []api.Mod {
	var l []api.Mod
	for _, c := range o.sent {
		if c.id == id {
			l = append(l, c.mod)
		}
	}
	return l
}

// after is the list with the changes of the transaction; one with an error has no effect.
func (o *model) after(list []api.Rule, id int) []api.Rule {
	for _, m := range o.changesOf(id) {
		if next, e := mods.Apply(list, m, 1<<40); e == api.OK {
			list = next
		}
	}
	return list
}

func (o *model) view() []api.Rule {
	list := o.base
	for _, id := range o.order {
		list = o.after(list, id)
	}
	return list
}

// error is the error with which a change is refused.
func (o *model) error(m api.Mod) api.Errno {
	if o.fails {
		return api.ErrAbort
	}
	if _, e := mods.Apply(o.view(), m, 1<<40); e != api.OK {
		return e
	}
	if m.Kind != api.Add {
		return api.OK
	}
	keys := []api.Rule{{Match: m.Match, Prio: m.Prio}}
	see := func(r api.Rule) {
		if !slices.ContainsFunc(keys, func(k api.Rule) bool { return rule.Key(k, r) }) {
			keys = append(keys, r)
		}
	}
	for _, r := range o.base {
		see(r)
	}
	for _, c := range o.sent {
		if c.mod.Kind == api.Add {
			see(api.Rule{Match: c.mod.Match, Prio: c.mod.Prio})
		}
	}
	if len(keys) > o.room {
		return api.ErrFull
	}
	return api.OK
}

// change is what MsgMod does.
func (o *model) change(id int, m api.Mod) api.Errno {
	if !slices.Contains(o.order, id) {
		o.order = append(o.order, id)
	}
	if o.dead[id] {
		return api.OK
	}
	e := o.error(m)
	if e == api.OK {
		o.sent = append(o.sent, sending{id, m})
	} else {
		o.dead[id] = true
		o.fails = false
	}
	return e
}

// end ends a transaction.
func (o *model) end(id int) {
	o.order = slices.DeleteFunc(o.order, func(x int) bool { return x == id })
	o.sent = slices.DeleteFunc(o.sent, func(c sending) bool { return c.id == id })
	delete(o.dead, id)
}

func (o *model) take(m api.Msg) []api.Msg {
	bad := []api.Msg{{Kind: api.MsgError, Txn: m.Txn, E: api.ErrForm}}
	if !code.Sound(m) || m.Kind >= api.MsgError {
		return bad
	}
	switch m.Kind {
	case api.MsgMod:
		if e := o.change(m.Txn, m.Mod); e != api.OK {
			return []api.Msg{{Kind: api.MsgError, Txn: m.Txn, E: e}}
		}
	case api.MsgBarrier:
		return []api.Msg{{Kind: api.MsgDone, Txn: m.Txn}}
	case api.MsgCommit:
		o.base = o.after(o.base, m.Txn)
		o.end(m.Txn)
	case api.MsgUndo:
		o.end(m.Txn)
	case api.MsgAsk:
		return []api.Msg{{Kind: api.MsgStats, Txn: m.Txn, Rules: o.base}}
	}
	return nil
}

func (o *model) packet(port int, h api.Head) ([]api.Send, []api.Msg, api.Hop) {
	if port < 1 || port > 16 {
		return nil, nil, api.Hop{}
	}
	h[0] = uint64(port)
	view := o.view()
	at, hit := rule.Find(view, h)
	below, ok := rule.Find(o.base, h)
	if ok {
		o.base = lapse.Hit(o.base, below)
	}
	if !hit {
		return nil, []api.Msg{{Kind: api.MsgPacket, Port: port, Head: h}}, api.Hop{In: api.End{Port: port}, Head: h}
	}
	sends, tell := act.Run(view[at].Acts, h)
	hop := api.Hop{In: api.End{Port: port}, Head: h, Hit: true, Prio: view[at].Prio, Rule: view[at].Match}
	if tell {
		return sends, []api.Msg{{Kind: api.MsgPacket, Port: port, Head: h}}, hop
	}
	return sends, nil, hop
}

func (o *model) tick(n int) []api.Msg {
	left, gone := lapse.Tick(o.base, n)
	o.base = left
	var back []api.Msg
	for _, r := range gone {
		back = append(back, api.Msg{Kind: api.MsgRemoved, Rules: []api.Rule{r}})
	}
	return back
}

// step is a call of a unit.
type step struct {
	call string // "take", "packet", "tick" or "fail"
	msg  api.Msg
	n    int
	head api.Head
}

// result is what a step returns.
type result struct {
	sends []api.Send
	back  []api.Msg
	hop   api.Hop
}

// on does the step.
func (s step) on(u *Unit) (r result) {
	switch s.call {
	case "take":
		r.back = u.Take(s.msg)
	case "packet":
		r.sends, r.back, r.hop = u.Packet(s.n, s.head)
	case "tick":
		r.back = u.Tick(s.n)
	case "fail":
		u.Fail()
	}
	return r
}

// onModel does the step.
func (s step) onModel(o *model) (r result) {
	switch s.call {
	case "take":
		r.back = o.take(s.msg)
	case "packet":
		r.sends, r.back, r.hop = o.packet(s.n, s.head)
	case "tick":
		r.back = o.tick(s.n)
	case "fail":
		o.fails = true
	}
	return r
}

// equal reports whether two results are equal.
func (r result) equal(other result) bool {
	return slices.Equal(r.sends, other.sends) && slices.EqualFunc(r.back, other.back, code.Same) && r.hop == other.hop
}

// one is an element of l.
func one[T any](rnd *rand.Rand, l ...T) T {
	return l[rnd.Intn(len(l))]
}

// anyMatch is one of a few cubes, which contain each other, meet, or are apart.
func anyMatch(rnd *rand.Rand) api.Cube {
	return one(rnd, cube.All(), vlan(0), vlan(1), vlan(2), vlan(3), fixed(api.Vlan, 2, 11), fixed(api.InPort, 2, 16), and(vlan(1), api.Pcp, 1, 4))
}

// anyHead is one of a few headers, mostly sound ones.
func anyHead(rnd *rand.Rand) api.Head {
	return one(rnd, api.Head{}, on(1), on(2), on(3), on(4), api.Head{api.Vlan: 1, api.Pcp: 1}, came(2, on(1)), came(1<<40, on(2)), on(1<<12))
}

// anyActs is one of a few lists of actions.
func anyActs(rnd *rand.Rand) []api.Act {
	tell, set := api.Act{Kind: api.Tell}, api.Act{Kind: api.Set, Field: api.Vlan, Value: 2}
	return one(rnd, nil, out(1), out(16), []api.Act{tell}, []api.Act{set, out(2)[0]}, []api.Act{out(3)[0], tell, set, out(4)[0]})
}

// anyMod is a change, mostly a sound one.
func anyMod(rnd *rand.Rand) api.Mod {
	m := api.Mod{Kind: one(rnd, 1, 1, 1, 1, 2, 3, 4, 5), Match: anyMatch(rnd), Owner: one(rnd, 1, 1, 1, 2)}
	if m.Kind != api.Modify && m.Kind != api.Delete {
		m.Prio = one(rnd, 1, 1, 2)
	}
	if m.Kind != api.Delete && m.Kind != api.DeleteIt {
		m.Acts = anyActs(rnd)
	}
	if m.Kind == api.Add {
		m.Idle, m.Hard, m.Check = one(rnd, 0, 0, 3, 8), one(rnd, 0, 0, 5, 12), rnd.Intn(5) == 0
	}
	if rnd.Intn(40) == 0 {
		m.Prio -= 3
	}
	return m
}

// anyTxn is one of a few numbers of transactions.
func anyTxn(rnd *rand.Rand) int {
	return one(rnd, 1, 1, 2, 2, 3, 4, 0, maxTxn)
}

// anyStep is a step, seldom with one of the wrong messages.
func anyStep(rnd *rand.Rand, wrong []api.Msg) step {
	take := func(m api.Msg) step { return step{call: "take", msg: m} }
	switch n := rnd.Intn(100); {
	case n < 50:
		return take(change(anyTxn(rnd), anyMod(rnd)))
	case n < 58:
		return take(just(api.MsgCommit, anyTxn(rnd)))
	case n < 62:
		return take(just(api.MsgUndo, anyTxn(rnd)))
	case n < 66:
		return take(just(one(rnd, api.MsgBarrier, api.MsgAsk), anyTxn(rnd)))
	case n < 69:
		m := one(rnd, wrong...)
		m.Txn = one(rnd, anyTxn(rnd), -1, maxTxn+1, math.MaxInt, math.MinInt)
		return take(m)
	case n < 88:
		return step{call: "packet", n: one(rnd, 1, 1, 2, 2, 16, 0, 17), head: anyHead(rnd)}
	case n < 97:
		return step{call: "tick", n: one(rnd, 1, 1, 1, 2, 2, 4, 0, -1)}
	default:
		return step{call: "fail"}
	}
}

// anySteps is so many steps.
func anySteps(rnd *rand.Rand, n int) []step {
	l, wrong := make([]step, n), wrongMessages()
	for i := range l {
		l[i] = anyStep(rnd, wrong)
	}
	return l
}

// state is all that a unit shows.
type state struct {
	Base, View []api.Rule
	Open       []int
}

// stateOf is what u shows.
func stateOf(u *Unit) state {
	return state{u.Base(), u.View(), u.Open()}
}

// equal reports whether two states are equal.
func (s state) equal(other state) bool {
	return rule.Same(s.Base, other.Base) && rule.Same(s.View, other.View) && slices.Equal(s.Open, other.Open)
}

// P13.1, P13.2: long mixed sequences of calls: each result, and the base, the view and the open transactions after each call, are as the chapter says.
func TestAgainstModel(t *testing.T) {
	rnd := rand.New(rand.NewSource(13))
	seen := map[api.Errno]int{}
	kinds := map[int]int{}
	for range 300 {
		room := one(rnd, -1, 0, 1, 2, 3, 4, 4, 6, 32, 33)
		u, o := New(room), newModel(room)
		for i, s := range anySteps(rnd, 120) {
			got, want := s.on(u), s.onModel(o)
			if !got.equal(want) {
				t.Fatalf("step %d, %+v: %+v, not %+v", i, s, got, want)
			}
			if now := (state{o.base, o.view(), sorted(o.order)}); !stateOf(u).equal(now) {
				t.Fatalf("step %d, %+v: %+v, not %+v", i, s, stateOf(u), now)
			}
			if len(u.Base()) > o.room || len(u.View()) > o.room || !rule.Table(u.Base()) || !rule.Table(u.View()) {
				t.Fatalf("step %d, %+v: %+v in room for %d", i, s, stateOf(u), o.room)
			}
			for _, m := range got.back {
				seen[m.E]++
				kinds[m.Kind]++
			}
		}
	}
	for _, e := range []api.Errno{api.ErrForm, api.ErrAbort, api.ErrOwner, api.ErrOverlap, api.ErrFull} {
		if seen[e] < 20 {
			t.Errorf("the sequences have error %d only %d times", e, seen[e])
		}
	}
	for kind := api.MsgError; kind <= api.MsgStats; kind++ {
		if kinds[kind] < 20 {
			t.Errorf("the sequences have answer %d only %d times", kind, kinds[kind])
		}
	}
}

// P13.1, P13.2: the same with many transactions and much room, opened and ended at random.
func TestManyTransactions(t *testing.T) {
	rnd := rand.New(rand.NewSource(14))
	for range 10 {
		u, o := New(32), newModel(32)
		for i, s := range anySteps(rnd, 400) {
			if s.call == "take" {
				s.msg.Txn = rnd.Intn(40)
			}
			if s.msg.Kind == api.MsgMod {
				s.msg.Mod.Match = fixed(api.Src, uint64(rnd.Intn(8)), one(rnd, 32, 32, 31, 30))
			}
			s.head[api.Src] = uint64(rnd.Intn(9))
			if got, want := s.on(u), s.onModel(o); !got.equal(want) {
				t.Fatalf("step %d, %+v: %+v, not %+v", i, s, got, want)
			}
			if now := (state{o.base, o.view(), sorted(o.order)}); !stateOf(u).equal(now) {
				t.Fatalf("step %d, %+v: %+v, not %+v", i, s, stateOf(u), now)
			}
		}
	}
}

// endAll ends all open transactions.
func endAll(t *testing.T, u *Unit, kind int) {
	t.Helper()
	for _, id := range u.Open() {
		takes(t, u, just(kind, id))
	}
}

// alike is two units to which the same has happened, without open transactions, and none is asked to refuse a change.
func alike(t *testing.T, rnd *rand.Rand) (u, other *Unit) {
	t.Helper()
	u, other = New(32), New(32)
	steps := anySteps(rnd, 40)
	for _, x := range []*Unit{u, other} {
		for _, s := range steps {
			s.on(x)
		}
		endAll(t, x, api.MsgCommit)
		x.Take(change(1, of(api.Delete, vlan(9), 0)))
		endAll(t, x, api.MsgUndo)
	}
	return u, other
}

// both lets a few packets and some time come to both units.
func both(rnd *rand.Rand, u, other *Unit) {
	for range 3 {
		port, h := rnd.Intn(4), anyHead(rnd)
		u.Packet(port, h)
		other.Packet(port, h)
	}
	n := rnd.Intn(3)
	u.Tick(n)
	other.Tick(n)
}

// What follows: transactions that are undone, whatever packets and time come while they are open, leave the unit as one that never heard of them.
func TestUndoneLeavesNothing(t *testing.T) {
	rnd := rand.New(rand.NewSource(15))
	for range 300 {
		u, other := alike(t, rnd)
		for i := range 15 {
			u.Take(change(one(rnd, 7, 8), anyMod(rnd)))
			both(rnd, u, other)
			if !rule.Same(u.Base(), other.Base()) {
				t.Fatalf("change %d: %+v, not %+v", i, u.Base(), other.Base())
			}
		}
		endAll(t, u, api.MsgUndo)
		if !stateOf(u).equal(stateOf(other)) {
			t.Fatalf("%+v, not %+v", stateOf(u), stateOf(other))
		}
	}
}

// What follows: what is committed counts only from then on, so the unit is as one to which all of it was sent only then.
func TestCommittedCountsFromThenOn(t *testing.T) {
	rnd := rand.New(rand.NewSource(16))
	for range 300 {
		u, other := alike(t, rnd)
		// When a change is sent may decide which error it has; of these none has one, as all rules have one owner.
		for _, x := range []*Unit{u, other} {
			takes(t, x, change(1, by(2, of(api.Delete, cube.All(), 0))), just(api.MsgCommit, 1))
		}
		var changes []api.Mod
		for len(changes) < 8 {
			if m := by(1, checkless(anyMod(rnd))); mods.Sound(m) {
				changes = append(changes, m)
			}
		}
		for _, m := range changes {
			takes(t, u, change(7, m))
			both(rnd, u, other)
		}
		for _, m := range changes {
			takes(t, other, change(7, m))
		}
		takes(t, u, just(api.MsgCommit, 7))
		takes(t, other, just(api.MsgCommit, 7))
		for range 3 {
			if !stateOf(u).equal(stateOf(other)) {
				t.Fatalf("%+v, not %+v", stateOf(u), stateOf(other))
			}
			both(rnd, u, other)
		}
	}
}

// P13.1, P13.2: two units are apart from each other, and the same calls have the same results.
func TestUnitsApart(t *testing.T) {
	rnd := rand.New(rand.NewSource(17))
	for range 100 {
		steps := [2][]step{anySteps(rnd, 60), anySteps(rnd, 60)}
		var alone [2][]result
		for i, l := range steps {
			u := New(4)
			for _, s := range l {
				alone[i] = append(alone[i], s.on(u))
			}
		}
		units := [2]*Unit{New(4), New(4)}
		for at := range 60 {
			for i, u := range units {
				if got := steps[i][at].on(u); !got.equal(alone[i][at]) {
					t.Fatalf("step %d of unit %d: %+v, not %+v", at, i, got, alone[i][at])
				}
			}
		}
	}
}

// P13.1, P13.2: to look at a unit changes nothing.
func TestLookingChangesNothing(t *testing.T) {
	rnd := rand.New(rand.NewSource(18))
	for range 50 {
		quiet, watched := New(4), New(4)
		for i, s := range anySteps(rnd, 60) {
			for range rnd.Intn(3) {
				stateOf(watched)
				watched.Take(just(api.MsgAsk, 7))
				watched.Take(just(api.MsgBarrier, 7))
			}
			if a, b := s.on(quiet), s.on(watched); !a.equal(b) {
				t.Fatalf("step %d, %+v: %+v, not %+v", i, s, b, a)
			}
		}
		if !stateOf(quiet).equal(stateOf(watched)) {
			t.Errorf("%+v, not %+v", stateOf(watched), stateOf(quiet))
		}
	}
}

// roomy is a copy of the Acts in memory with spare capacity, which has other actions in it.
func roomy(acts []api.Act) []api.Act {
	l := slices.Concat(acts, slices.Repeat([]api.Act{{Kind: 77, Port: 77}}, 4))
	return l[:len(acts)]
}

// deepRules is a copy of the rules that shares no memory.
func deepRules(l []api.Rule) []api.Rule {
	l = slices.Clone(l)
	for i := range l {
		l[i].Acts = slices.Clone(l[i].Acts)
	}
	return l
}

// spoilActs overwrites the actions, those in the spare capacity too.
func spoilActs(l []api.Act) {
	for i := range l[:cap(l)] {
		l[:cap(l)][i] = api.Act{Kind: 99, Port: 99, Field: 99, Value: 99}
	}
}

// spoilRules overwrites the rules and their actions, the spare capacity too.
func spoilRules(l []api.Rule) {
	l = l[:cap(l)]
	for i := range l {
		spoilActs(l[i].Acts)
		l[i] = api.Rule{Prio: 99, Owner: 99, Hits: 99}
	}
}

// spoil overwrites a result.
func (r result) spoil() {
	for i := range r.sends[:cap(r.sends)] {
		r.sends[:cap(r.sends)][i] = api.Send{Port: 99}
	}
	back := r.back[:cap(r.back)]
	for i := range back {
		spoilRules(back[i].Rules)
		spoilActs(back[i].Mod.Acts)
		back[i] = api.Msg{Kind: 99}
	}
}

// R4: a message that is taken is not changed, nor the spare capacity of its Acts and Rules.
func TestMessagesUnchanged(t *testing.T) {
	rnd := rand.New(rand.NewSource(19))
	for range 100 {
		u := New(4)
		for _, s := range anySteps(rnd, 60) {
			s.msg.Mod.Acts = roomy(s.msg.Mod.Acts)
			s.msg.Rules = deepRules(s.msg.Rules)
			before := s.msg
			before.Mod.Acts = slices.Clone(s.msg.Mod.Acts[:cap(s.msg.Mod.Acts)])
			before.Rules = deepRules(s.msg.Rules)
			s.on(u)
			after := s.msg
			after.Mod.Acts = after.Mod.Acts[:cap(after.Mod.Acts)]
			if !reflect.DeepEqual(after.Mod, before.Mod) || !code.Same(after, before) {
				t.Fatalf("%+v, not %+v", after, before)
			}
		}
	}
}

// R4: a message that was taken, and each result, may be written into afterwards: the unit is as it was.
func TestMemory(t *testing.T) {
	rnd := rand.New(rand.NewSource(20))
	for range 150 {
		u, o := New(5), newModel(5)
		for i, s := range anySteps(rnd, 80) {
			want := s.onModel(o)
			s.msg.Mod.Acts = roomy(s.msg.Mod.Acts)
			s.msg.Rules = deepRules(s.msg.Rules)
			got := s.on(u)
			if !got.equal(want) {
				t.Fatalf("step %d, %+v: %+v, not %+v", i, s, got, want)
			}
			spoilActs(s.msg.Mod.Acts)
			spoilRules(s.msg.Rules)
			got.spoil()
			shown := stateOf(u)
			spoilRules(shown.Base)
			spoilRules(shown.View)
			for j := range shown.Open[:cap(shown.Open)] {
				shown.Open[:cap(shown.Open)][j] = 99
			}
			if now := (state{o.base, o.view(), sorted(o.order)}); !stateOf(u).equal(now) {
				t.Fatalf("step %d, %+v: %+v, not %+v", i, s, stateOf(u), now)
			}
		}
	}
}

// R4: results share no memory with each other: neither those of several calls, nor the lists of one answer.
func TestResultsApart(t *testing.T) {
	u := holding(t, 8, add(vlan(1), 1), lasting(add(vlan(2), 2), 3, 0), lasting(add(vlan(3), 3), 0, 3), lasting(add(vlan(4), 4), 3, 3))
	base := u.Base()
	for _, x := range [][2][]api.Rule{
		{u.Base(), u.Base()}, {u.View(), u.View()}, {u.Base(), u.View()}, {u.View(), u.Base()},
		{u.Take(just(api.MsgAsk, 1))[0].Rules, u.Base()}, {u.Take(just(api.MsgAsk, 1))[0].Rules, u.View()}, {u.Take(just(api.MsgAsk, 1))[0].Rules, u.Take(just(api.MsgAsk, 1))[0].Rules},
	} {
		spoilRules(x[0])
		if !rule.Same(x[1], base) {
			t.Errorf("%+v, not %+v", x[1], base)
		}
	}
	gone := u.Tick(3)
	for i := range gone {
		want := deepRules(gone[len(gone)-1].Rules)
		if i+1 < len(gone) {
			spoilRules(gone[i].Rules)
			if !rule.Same(gone[len(gone)-1].Rules, want) {
				t.Errorf("%+v, not %+v", gone[len(gone)-1].Rules, want)
			}
		}
	}
	shows(t, u, u.Base(), table(counted(ruleFrom(add(vlan(1), 1)), 0, 3, 3)))
}

// R6, P13.1: a change that is refused leaves the base and the view as they were: it opens its transaction, and that is all.
func TestRefusedChangesNothing(t *testing.T) {
	rnd := rand.New(rand.NewSource(21))
	refused := 0
	for range 200 {
		u := New(4)
		for _, s := range anySteps(rnd, 60) {
			before := stateOf(u)
			r := s.on(u)
			if s.call != "take" || len(r.back) != 1 || r.back[0].Kind != api.MsgError {
				continue
			}
			refused++
			if code.Sound(s.msg) && s.msg.Kind == api.MsgMod && !slices.Contains(before.Open, s.msg.Txn) {
				before.Open = sorted(append(before.Open, s.msg.Txn))
			}
			if !stateOf(u).equal(before) {
				t.Fatalf("%+v: %+v, not %+v", s, stateOf(u), before)
			}
		}
	}
	if refused < 100 {
		t.Errorf("only %d were refused", refused)
	}
}
