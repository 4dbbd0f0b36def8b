package unit

import (
	"math"
	"slices"
	"testing"

	"podesta/api"
	"podesta/code"
	"podesta/cube"
	"podesta/rule"
)

// maxTxn is the greatest number of a transaction in a sound message.
const maxTxn = 1<<32 - 1

// fixed is the cube of the headers with this value of a field.
func fixed(field int, v uint64, bits int) api.Cube {
	return and(cube.All(), field, v, bits)
}

// and is c with a field fixed.
func and(c api.Cube, field int, v uint64, bits int) api.Cube {
	out, e := cube.With(c, field, v, bits)
	if e != api.OK {
		panic(e)
	}
	return out
}

// vlan is the cube of the headers with this VLAN.
func vlan(v uint64) api.Cube {
	return fixed(api.Vlan, v, 12)
}

// on is a header with this VLAN.
func on(v uint64) api.Head {
	return api.Head{api.Vlan: v}
}

// came is h, as a unit sees it when it has come in at the port.
func came(port int, h api.Head) api.Head {
	h[api.InPort] = uint64(port)
	return h
}

// out is a list of one action.
func out(port int) []api.Act {
	return []api.Act{{Kind: api.Out, Port: port}}
}

// add is a change that adds a rule of owner 1, which sends to port 1.
func add(match api.Cube, prio int) api.Mod {
	return api.Mod{Kind: api.Add, Match: match, Prio: prio, Acts: out(1), Owner: 1}
}

// of is a change of another kind, of owner 1.
func of(kind int, match api.Cube, prio int, acts ...api.Act) api.Mod {
	return api.Mod{Kind: kind, Match: match, Prio: prio, Acts: acts, Owner: 1}
}

// by is m as a change of another owner.
func by(owner int, m api.Mod) api.Mod {
	m.Owner = owner
	return m
}

// checked is the Add m with Check.
func checked(m api.Mod) api.Mod {
	m.Check = true
	return m
}

// lasting is the Add m of a rule that lapses.
func lasting(m api.Mod, idle, hard int) api.Mod {
	m.Idle, m.Hard = idle, hard
	return m
}

// ruleFrom is the rule that the Add m adds.
func ruleFrom(m api.Mod) api.Rule {
	return api.Rule{Match: m.Match, Prio: m.Prio, Acts: slices.Clone(m.Acts), Idle: m.Idle, Hard: m.Hard, Owner: m.Owner}
}

// counted is r with these counts.
func counted(r api.Rule, hits, quiet, age int) api.Rule {
	r.Hits, r.Quiet, r.Age = hits, quiet, age
	return r
}

// doing is r with other actions.
func doing(r api.Rule, acts ...api.Act) api.Rule {
	r.Acts = acts
	return r
}

// change is the message with a change of a transaction.
func change(id int, m api.Mod) api.Msg {
	return api.Msg{Kind: api.MsgMod, Txn: id, Mod: m}
}

// just is a message without contents.
func just(kind, id int) api.Msg {
	return api.Msg{Kind: kind, Txn: id}
}

// answers complains unless these are the answers, in everything.
func answers(t *testing.T, what string, got []api.Msg, want ...api.Msg) {
	t.Helper()
	if !slices.EqualFunc(got, want, code.Same) {
		t.Errorf("%s: %+v, not %+v", what, got, want)
	}
}

// takes complains unless all these messages are taken without an answer.
func takes(t *testing.T, u *Unit, messages ...api.Msg) {
	t.Helper()
	for _, m := range messages {
		if l := u.Take(m); len(l) != 0 {
			t.Errorf("%+v: %+v", m, l)
		}
	}
}

// refuses complains unless the answer to m is this error.
func refuses(t *testing.T, u *Unit, m api.Msg, e api.Errno) {
	t.Helper()
	l := u.Take(m)
	if want := (api.Msg{Kind: api.MsgError, Txn: m.Txn, E: e}); len(l) != 1 || !code.Same(l[0], want) {
		t.Errorf("%+v: %+v, not error %d", m, l, e)
	}
}

// shows complains unless the base, the view and the open transactions are these.
func shows(t *testing.T, u *Unit, base, view []api.Rule, open ...int) {
	t.Helper()
	if l := u.Base(); !rule.Same(l, base) {
		t.Errorf("base: %+v, not %+v", l, base)
	}
	if l := u.View(); !rule.Same(l, view) {
		t.Errorf("view: %+v, not %+v", l, view)
	}
	if l := u.Open(); !slices.Equal(l, open) {
		t.Errorf("open: %v, not %v", l, open)
	}
}

// holding is a unit whose base has the rules that these changes lead to.
func holding(t *testing.T, room int, changes ...api.Mod) *Unit {
	t.Helper()
	u := New(room)
	for _, m := range changes {
		takes(t, u, change(1000, m))
	}
	takes(t, u, just(api.MsgCommit, 1000))
	return u
}

// sameRule reports whether two rules are equal.
func sameRule(a, b api.Rule) bool {
	return rule.Same([]api.Rule{a}, []api.Rule{b})
}

// table is the sorted rules.
func table(rules ...api.Rule) []api.Rule {
	return rule.Sort(rules)
}

// added is the table of the rules that these Adds add.
func added(changes ...api.Mod) []api.Rule {
	var l []api.Rule
	for _, m := range changes {
		l = append(l, ruleFrom(m))
	}
	return table(l...)
}

// P13.2: the example.
func TestExample(t *testing.T) {
	_, back, _ := New(0).Packet(1, on(5))
	answers(t, "a packet to an empty unit", back, api.Msg{Kind: api.MsgPacket, Port: 1, Head: came(1, on(5))})
}

// P13.1: a new unit has room for so many rules, limited, and none yet.
func TestNew(t *testing.T) {
	for room, want := range map[int]int{
		math.MinInt: 0, math.MinInt + 1: 0, -1 << 32: 0, -32: 0, -1: 0,
		0: 0, 1: 1, 2: 2, 7: 7, 31: 31, 32: 32,
		33: 32, 64: 32, 65535: 32, 1<<32 + 1: 32, math.MaxInt - 1: 32, math.MaxInt: 32,
	} {
		u := New(room)
		shows(t, u, nil, nil)
		var adds []api.Mod
		for i := range want {
			adds = append(adds, add(vlan(uint64(i)), i))
			takes(t, u, change(i, adds[i]))
		}
		for i := range want + 1 {
			refuses(t, u, change(100+i, add(vlan(100), i)), api.ErrFull)
		}
		for id := range 200 {
			takes(t, u, just(api.MsgCommit, id))
		}
		shows(t, u, added(adds...), added(adds...))
	}
}

// P13.1, P13.2: a nil unit returns nothing, whatever it is asked.
func TestNil(t *testing.T) {
	var u *Unit
	for kind := -1; kind <= 12; kind++ {
		takes(t, u, just(kind, 1), just(kind, -1), change(1, add(vlan(1), 1)), api.Msg{Kind: kind, E: 99})
	}
	for _, port := range []int{math.MinInt, -1, 0, 1, 16, 17, math.MaxInt} {
		for _, h := range []api.Head{{}, on(5), on(1 << 12)} {
			if sends, back, hop := u.Packet(port, h); sends != nil || back != nil || hop != (api.Hop{}) {
				t.Errorf("port %d: %v, %v and %v", port, sends, back, hop)
			}
		}
	}
	for _, n := range []int{math.MinInt, 0, 1, math.MaxInt} {
		answers(t, "Tick", u.Tick(n))
	}
	u.Fail()
	shows(t, u, nil, nil)
	if u.Take(just(api.MsgAsk, 1)) != nil || u.Tick(1) != nil || u.Base() != nil || u.View() != nil || u.Open() != nil {
		t.Error("a result is not nil")
	}
}

// wrongMessages is messages that are not sound, and of all kinds that units send also sound ones.
func wrongMessages() []api.Msg {
	sound := api.Rule{Match: vlan(5), Prio: 7, Owner: 1}
	l := []api.Msg{
		{}, {Kind: -1}, {Kind: 11}, {Kind: 255}, {Kind: 257}, {Kind: math.MinInt}, {Kind: math.MaxInt},
		{Kind: api.MsgError, E: api.ErrForm}, {Kind: api.MsgError, E: api.ErrDone}, {Kind: api.MsgError}, {Kind: api.MsgError, E: 18}, {Kind: api.MsgError, E: -1},
		{Kind: api.MsgDone}, {Kind: api.MsgDone, E: 1}, {Kind: api.MsgDone, Port: 1},
		{Kind: api.MsgPacket, Port: 1}, {Kind: api.MsgPacket, Port: 16, Head: on(5)}, {Kind: api.MsgPacket}, {Kind: api.MsgPacket, Port: 17}, {Kind: api.MsgPacket, Port: 1, Head: on(1 << 12)},
		{Kind: api.MsgRemoved, Rules: []api.Rule{sound}}, {Kind: api.MsgRemoved}, {Kind: api.MsgRemoved, Rules: []api.Rule{{Prio: -1}}}, {Kind: api.MsgRemoved, Rules: []api.Rule{sound, {}}},
		{Kind: api.MsgStats}, {Kind: api.MsgStats, Rules: []api.Rule{sound, {}}}, {Kind: api.MsgStats, Rules: []api.Rule{{}, sound}}, {Kind: api.MsgStats, Rules: []api.Rule{{Hits: -1}}},
		{Kind: api.MsgMod}, {Kind: api.MsgMod, Mod: api.Mod{Kind: 6}}, {Kind: api.MsgMod, Mod: by(-1, add(vlan(5), 7))}, {Kind: api.MsgMod, Mod: by(256, add(vlan(5), 7))},
		{Kind: api.MsgMod, Mod: add(vlan(5), -1)}, {Kind: api.MsgMod, Mod: add(vlan(5), api.MaxPrio+1)}, {Kind: api.MsgMod, Mod: add(api.Cube{Value: on(1)}, 1)},
		{Kind: api.MsgMod, Mod: lasting(add(vlan(5), 7), -1, 0)}, {Kind: api.MsgMod, Mod: lasting(add(vlan(5), 7), 0, api.MaxTime+1)},
		{Kind: api.MsgMod, Mod: of(api.Modify, vlan(5), 7)}, {Kind: api.MsgMod, Mod: of(api.Delete, vlan(5), 7)}, {Kind: api.MsgMod, Mod: of(api.DeleteIt, vlan(5), 7, out(1)...)},
		{Kind: api.MsgMod, Mod: checked(of(api.ModifyIt, vlan(5), 7))}, {Kind: api.MsgMod, Mod: of(api.Modify, vlan(5), 0, out(17)...)},
		{Kind: api.MsgMod, Mod: api.Mod{Kind: api.Add, Acts: slices.Repeat(out(1), api.MaxActs+1)}},
	}
	for _, kind := range []int{api.MsgMod, api.MsgBarrier, api.MsgCommit, api.MsgUndo, api.MsgAsk} {
		m := just(kind, 0)
		if kind == api.MsgMod {
			m.Mod = add(vlan(5), 7)
		}
		withE, withPort, withHead, withRules := m, m, m, m
		withE.E = api.ErrForm
		withPort.Port = 1
		withHead.Head = on(5)
		withRules.Rules = []api.Rule{sound}
		l = append(l, withE, withPort, withHead, withRules)
		if kind != api.MsgMod {
			m.Mod = add(vlan(5), 7)
			l = append(l, m)
		}
	}
	return l
}

// P13.1: the answer to a wrong message is ErrForm, with its Txn, also that of an open transaction, and nothing else happens.
func TestWrongMessages(t *testing.T) {
	for _, m := range wrongMessages() {
		u := holding(t, 4, add(vlan(1), 1))
		takes(t, u, change(7, add(vlan(2), 2)), change(3, of(api.DeleteIt, vlan(1), 1)))
		refuses(t, u, change(8, by(2, add(vlan(2), 2))), api.ErrOwner)
		u.Fail()
		for _, id := range []int{0, 1, 7, 3, 8, 9, maxTxn, maxTxn + 1, -1, math.MinInt, math.MaxInt} {
			m.Txn = id
			refuses(t, u, m, api.ErrForm)
			shows(t, u, added(add(vlan(1), 1)), added(add(vlan(2), 2)), 3, 7, 8)
		}
		// What Fail has asked for is still to come, and the transactions go on as they were.
		refuses(t, u, change(9, add(vlan(3), 3)), api.ErrAbort)
		takes(t, u, change(7, add(vlan(4), 4)), change(8, add(vlan(5), 5)), just(api.MsgCommit, 7), just(api.MsgCommit, 3), just(api.MsgCommit, 8))
		shows(t, u, added(add(vlan(2), 2), add(vlan(4), 4)), added(add(vlan(2), 2), add(vlan(4), 4)), 9)
	}
}

// P13.1: messages that would be sound but for their Txn: the answer has it, whatever it is.
func TestWrongTxn(t *testing.T) {
	for _, id := range []int{-1, -2, -1 << 32, math.MinInt, maxTxn + 1, maxTxn + 2, math.MaxInt} {
		u := holding(t, 2, add(vlan(1), 1))
		for _, m := range []api.Msg{change(id, add(vlan(2), 2)), just(api.MsgBarrier, id), just(api.MsgCommit, id), just(api.MsgUndo, id), just(api.MsgAsk, id), just(api.MsgDone, id)} {
			refuses(t, u, m, api.ErrForm)
			shows(t, u, added(add(vlan(1), 1)), added(add(vlan(1), 1)))
		}
	}
}

// P13.1: the least and the greatest number of a transaction are as good as others.
func TestExtremeTxn(t *testing.T) {
	for _, id := range []int{0, 1, maxTxn - 1, maxTxn} {
		u := New(2)
		takes(t, u, change(id, add(vlan(2), 2)))
		shows(t, u, nil, added(add(vlan(2), 2)), id)
		answers(t, "barrier", u.Take(just(api.MsgBarrier, id)), just(api.MsgDone, id))
		answers(t, "ask", u.Take(just(api.MsgAsk, id)), just(api.MsgStats, id))
		refuses(t, u, change(id, by(2, add(vlan(2), 2))), api.ErrOwner)
		takes(t, u, just(api.MsgCommit, id))
		shows(t, u, added(add(vlan(2), 2)), added(add(vlan(2), 2)))
	}
}
