package net

import (
	"math"
	"slices"
	"testing"

	"podesta/api"
	"podesta/code"
	"podesta/cube"
	"podesta/rule"
)

// end is port port of unit unit.
func end(unit, port int) api.End {
	return api.End{Unit: unit, Port: port}
}

// link is a link of two ports.
func link(unitA, portA, unitB, portB int) api.Link {
	return api.Link{A: end(unitA, portA), B: end(unitB, portB)}
}

// setup is a setup with room for as many rules as can be.
func setup(units, ports int, links ...api.Link) api.Setup {
	return api.Setup{Units: units, Ports: ports, Room: api.MaxRules, Links: links}
}

// network is a new network with this setup.
func network(t *testing.T, s api.Setup) *Net {
	t.Helper()
	n, e := New(s)
	if n == nil || e != api.OK {
		t.Fatalf("New %+v: %v and error %d", s, n, e)
	}
	return n
}

// fixed is c with a field fixed.
func fixed(c api.Cube, field int, v uint64) api.Cube {
	bits := 16
	if field == api.Vlan {
		bits = 12
	}
	c, e := cube.With(c, field, v, bits)
	if e != api.OK {
		panic(e)
	}
	return c
}

// vlan is the cube of the headers with this VLAN.
func vlan(v uint64) api.Cube {
	return fixed(cube.All(), api.Vlan, v)
}

// in is the cube of the headers that came in at this port.
func in(port uint64) api.Cube {
	return fixed(cube.All(), api.InPort, port)
}

// on is a header with this VLAN.
func on(v uint64) api.Head {
	return api.Head{api.Vlan: v}
}

// came is h, as a unit sees it when it has come in at the port.
func came(port int, h api.Head) api.Head {
	h[api.InPort] = uint64(port)
	return h
}

// out is actions that send to these ports.
func out(ports ...int) []api.Act {
	var l []api.Act
	for _, port := range ports {
		l = append(l, api.Act{Kind: api.Out, Port: port})
	}
	return l
}

// to is the action that sets the VLAN.
func to(v uint64) api.Act {
	return api.Act{Kind: api.Set, Field: api.Vlan, Value: v}
}

// tell is the action that tells the controller.
func tell() api.Act {
	return api.Act{Kind: api.Tell}
}

// add is a change that adds a rule of owner 1.
func add(match api.Cube, prio int, acts ...api.Act) api.Mod {
	return api.Mod{Kind: api.Add, Match: match, Prio: prio, Acts: acts, Owner: 1}
}

// lasting is the Add m of a rule that lapses.
func lasting(m api.Mod, idle, hard int) api.Mod {
	m.Idle, m.Hard = idle, hard
	return m
}

// ruleFrom is the rule that the Add m adds, with these counts.
func ruleFrom(m api.Mod, hits, quiet, age int) api.Rule {
	return api.Rule{Match: m.Match, Prio: m.Prio, Acts: slices.Clone(m.Acts), Idle: m.Idle, Hard: m.Hard, Owner: m.Owner, Hits: hits, Quiet: quiet, Age: age}
}

// change is the message with a change of a transaction.
func change(id int, m api.Mod) api.Msg {
	return api.Msg{Kind: api.MsgMod, Txn: id, Mod: m}
}

// just is a message without contents.
func just(kind, id int) api.Msg {
	return api.Msg{Kind: kind, Txn: id}
}

// fault is the answer of a unit that tells of an error.
func fault(id int, e api.Errno) api.Msg {
	return api.Msg{Kind: api.MsgError, Txn: id, E: e}
}

// told is the answer to a packet that no rule matches, or whose rule tells.
func told(port int, h api.Head) api.Msg {
	return api.Msg{Kind: api.MsgPacket, Port: port, Head: came(port, h)}
}

// removed is the answer for a rule that has lapsed.
func removed(r api.Rule) api.Msg {
	return api.Msg{Kind: api.MsgRemoved, Rules: []api.Rule{r}}
}

// bytesOf is the bytes of a sound message.
func bytesOf(m api.Msg) []byte {
	b, e := code.Encode(m)
	if e != api.OK {
		panic(e)
	}
	return b
}

// sends complains unless there is room for these bytes in the pipe down to the unit.
func sends(t *testing.T, n *Net, unit int, b []byte) {
	t.Helper()
	if e := n.Send(unit, b); e != api.OK {
		t.Errorf("Send %d, %v: error %d", unit, b, e)
	}
}

// downs complains unless the unit takes an element.
func downs(t *testing.T, n *Net, unit int) {
	t.Helper()
	if e := n.Down(unit); e != api.OK {
		t.Errorf("Down %d: error %d", unit, e)
	}
}

// takes lets the unit, for which nothing waits, take these messages.
func takes(t *testing.T, n *Net, unit int, messages ...api.Msg) {
	t.Helper()
	for _, m := range messages {
		sends(t, n, unit, bytesOf(m))
		downs(t, n, unit)
	}
}

// holds adds rules to the base of the unit.
func holds(t *testing.T, n *Net, unit int, adds ...api.Mod) {
	t.Helper()
	for _, m := range adds {
		takes(t, n, unit, change(1000, m))
	}
	takes(t, n, unit, just(api.MsgCommit, 1000))
}

// gives complains unless Back returns this message.
func gives(t *testing.T, n *Net, unit int, want api.Msg) {
	t.Helper()
	if m, e := n.Back(unit); e != api.OK || !code.Same(m, want) {
		t.Errorf("Back %d: %+v and error %d, not %+v", unit, m, e, want)
	}
}

// hears complains unless just these messages wait in the pipe back from the unit, which is empty then.
func hears(t *testing.T, n *Net, unit int, want ...api.Msg) {
	t.Helper()
	if _, back := n.Waiting(unit); back != len(want) {
		t.Errorf("unit %d: %d messages, not %d", unit, back, len(want))
	}
	for _, m := range want {
		gives(t, n, unit, m)
	}
	if m, e := n.Back(unit); e != api.ErrNone || !code.Same(m, api.Msg{}) {
		t.Errorf("Back %d: %+v and error %d", unit, m, e)
	}
}

// waits complains unless so many messages wait in the pipes of the unit.
func waits(t *testing.T, n *Net, unit, down, back int) {
	t.Helper()
	if a, b := n.Waiting(unit); a != down || b != back {
		t.Errorf("Waiting %d: %d and %d, not %d and %d", unit, a, b, down, back)
	}
}

// shows complains unless the base and the view of the unit are these.
func shows(t *testing.T, n *Net, unit int, base, view []api.Rule) {
	t.Helper()
	if l := n.Base(unit); !rule.Same(l, base) {
		t.Errorf("unit %d: base %+v, not %+v", unit, l, base)
	}
	if l := n.View(unit); !rule.Same(l, view) {
		t.Errorf("unit %d: view %+v, not %+v", unit, l, view)
	}
}

// P14.1: the example.
func TestExample(t *testing.T) {
	n := network(t, setup(1, 1))
	sends(t, n, 0, []byte{api.MsgBarrier, 0, 0, 0, 7})
	waits(t, n, 0, 1, 0)
	downs(t, n, 0)
	waits(t, n, 0, 0, 1)
	gives(t, n, 0, just(api.MsgDone, 7))
	waits(t, n, 0, 0, 0)
}

// missing is numbers of units that a network with so many units does not have.
func missing(units int) []int {
	return []int{-1, -2, -units, units, units + 1, 8, 9, 255, 256, 1 << 31, 1 << 32, -1 << 32, -1 << 31, math.MinInt, math.MinInt + 1, math.MaxInt - 1, math.MaxInt}
}

// isNone complains unless every method says that there is no such unit.
func isNone(t *testing.T, n *Net, unit int) {
	t.Helper()
	for _, b := range [][]byte{nil, {}, bytesOf(just(api.MsgBarrier, 1))} {
		if e := n.Send(unit, b); e != api.ErrArg {
			t.Errorf("Send %d: error %d", unit, e)
		}
	}
	if e := n.Down(unit); e != api.ErrArg {
		t.Errorf("Down %d: error %d", unit, e)
	}
	if m, e := n.Back(unit); e != api.ErrArg || !code.Same(m, api.Msg{}) {
		t.Errorf("Back %d: %+v and error %d", unit, m, e)
	}
	for _, port := range []int{math.MinInt, -1, 0, 1, 2, 16, 17, math.MaxInt} {
		isRefused(t, n, end(unit, port), on(5))
	}
	if e := n.Fail(unit); e != api.ErrArg {
		t.Errorf("Fail %d: error %d", unit, e)
	}
	if base, view := n.Base(unit), n.View(unit); base != nil || view != nil {
		t.Errorf("unit %d: %+v and %+v", unit, base, view)
	}
	waits(t, n, unit, 0, 0)
}

// isRefused complains unless Packet returns ErrArg and nothing else.
func isRefused(t *testing.T, n *Net, at api.End, h api.Head) {
	t.Helper()
	if hops, out, e := n.Packet(at, h); hops != nil || out != nil || e != api.ErrArg {
		t.Errorf("Packet %v, %v: %+v, %+v and error %d", at, h, hops, out, e)
	}
}

// P14.1, P14.2: units that do not exist; those that do are as they were.
func TestMissingUnits(t *testing.T) {
	for units := 1; units <= api.MaxUnits; units++ {
		n := network(t, setup(units, 2))
		for unit := range units {
			holds(t, n, unit, add(vlan(1), unit))
			takes(t, n, unit, change(6, add(vlan(2), unit)), just(api.MsgBarrier, unit))
			sends(t, n, unit, bytesOf(just(api.MsgBarrier, 9)))
		}
		for _, unit := range missing(units) {
			if unit < 0 || unit >= units {
				isNone(t, n, unit)
			}
		}
		for unit := range units {
			one, two := ruleFrom(add(vlan(1), unit), 0, 0, 0), ruleFrom(add(vlan(2), unit), 0, 0, 0)
			shows(t, n, unit, []api.Rule{one}, rule.Sort([]api.Rule{one, two}))
			waits(t, n, unit, 1, 1)
			gives(t, n, unit, just(api.MsgDone, unit))
			// Fail of a unit that is missing was not Fail of this one.
			downs(t, n, unit)
			takes(t, n, unit, change(6, add(vlan(3), unit)))
			hears(t, n, unit, just(api.MsgDone, 9))
		}
	}
}

// P14.1, P14.2: a nil network, for every method, and one that New did not make.
func TestNil(t *testing.T) {
	for _, unit := range append(missing(2), 0, 1, 7) {
		isNone(t, nil, unit)
		isNone(t, &Net{}, unit)
	}
	var n *Net
	for _, moments := range []int{math.MinInt, -1, 0, 1, api.MaxTime, api.MaxTime + 1, math.MaxInt} {
		if e := n.Tick(moments); e != api.ErrArg {
			t.Errorf("Tick %d: error %d", moments, e)
		}
	}
	isRefused(t, nil, end(0, 1), on(1<<12))
}

// isNew complains unless n has just the units of the setup, with its room, without rules or messages.
func isNew(t *testing.T, n *Net, s api.Setup) {
	t.Helper()
	for _, unit := range missing(s.Units) {
		if unit < 0 || unit >= s.Units {
			isNone(t, n, unit)
		}
	}
	for unit := range s.Units {
		waits(t, n, unit, 0, 0)
		shows(t, n, unit, nil, nil)
		hears(t, n, unit)
		if e := n.Down(unit); e != api.ErrNone {
			t.Errorf("%+v: Down %d: error %d", s, unit, e)
		}
	}
	for unit := range s.Units {
		var want []api.Rule
		for prio := range s.Room {
			takes(t, n, unit, change(unit, add(vlan(1), prio)))
			want = append(want, ruleFrom(add(vlan(1), s.Room-1-prio), 0, 0, 0))
		}
		shows(t, n, unit, nil, want)
		takes(t, n, unit, change(unit, add(vlan(1), s.Room)))
		hears(t, n, unit, fault(unit, api.ErrFull))
	}
}

// P14.1: New with setups that are sound: the least and the greatest numbers, and links of all sorts.
func TestNew(t *testing.T) {
	for _, units := range []int{1, 2, 7, 8} {
		for _, ports := range []int{1, 2, 15, 16} {
			for _, room := range []int{0, 1, 31, 32} {
				s := api.Setup{Units: units, Ports: ports, Room: room}
				isNew(t, network(t, s), s)
				s.Links = []api.Link{}
				isNew(t, network(t, s), s)
			}
		}
	}
	for _, s := range []api.Setup{
		setup(1, 2, link(0, 1, 0, 2)),
		setup(2, 1, link(0, 1, 1, 1)),
		setup(2, 2, link(1, 2, 0, 1), link(0, 2, 1, 1)),
		setup(8, 16, link(7, 16, 7, 1), link(0, 16, 6, 1), link(0, 1, 6, 16)),
	} {
		isNew(t, network(t, s), s)
	}
}

// P14.1: New with setups that are not sound: the error is that of chapter 12, and there is no network.
func TestNewErrors(t *testing.T) {
	wrong := func(e api.Errno, s api.Setup) {
		t.Helper()
		if n, got := New(s); n != nil || got != e {
			t.Errorf("%+v: %v and error %d, not %d", s, n, got, e)
		}
	}
	wrong(api.ErrRange, api.Setup{})
	for _, number := range []int{math.MinInt, -1 << 32, -1, 33, 1 << 32, 1<<32 + 1, math.MaxInt} {
		wrong(api.ErrRange, api.Setup{Units: number, Ports: 1, Room: 1})
		wrong(api.ErrRange, api.Setup{Units: 1, Ports: number, Room: 1})
		wrong(api.ErrRange, api.Setup{Units: 1, Ports: 1, Room: number})
		wrong(api.ErrRange, api.Setup{Units: number, Ports: 1, Room: 1, Links: []api.Link{{}}})
	}
	wrong(api.ErrRange, api.Setup{Units: 0, Ports: 1, Room: 1})
	wrong(api.ErrRange, api.Setup{Units: 9, Ports: 1, Room: 1})
	wrong(api.ErrRange, api.Setup{Units: 1, Ports: 0, Room: 1})
	wrong(api.ErrRange, api.Setup{Units: 1, Ports: 17, Room: 1})
	for _, links := range [][]api.Link{
		{{}}, {link(0, 0, 1, 1)}, {link(0, 1, 1, 0)}, {link(0, 3, 1, 1)}, {link(0, 1, 1, 3)}, {link(2, 1, 0, 1)}, {link(0, 1, -1, 1)},
		{link(0, 1, 0, 1)}, {link(0, 1, 1, 1), link(0, 1, 1, 2)}, {link(0, 1, 1, 1), link(0, 2, 1, 1)}, {link(0, 1, 1, 1), link(1, 1, 0, 1)},
		{link(0, 1, 1, 1), link(0, 2, math.MaxInt, math.MinInt)},
	} {
		wrong(api.ErrForm, setup(2, 2, links...))
	}
}
