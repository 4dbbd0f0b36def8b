package unit

import (
	"math"
	"slices"
	"testing"

	"podesta/api"
	"podesta/cube"
)

// told is the message of a packet that no rule matches, or whose rule tells.
func told(port int, h api.Head) api.Msg {
	return api.Msg{Kind: api.MsgPacket, Port: port, Head: came(port, h)}
}

// removed is the message of a rule that has lapsed.
func removed(r api.Rule) api.Msg {
	return api.Msg{Kind: api.MsgRemoved, Rules: []api.Rule{r}}
}

// meets complains unless the packet meets the rule, is sent out so, and is told if it should be.
func meets(t *testing.T, u *Unit, port int, h api.Head, r api.Rule, tell bool, want ...api.Send) {
	t.Helper()
	sends, back, hop := u.Packet(port, h)
	if !slices.Equal(sends, want) {
		t.Errorf("port %d, %v: sent %v, not %v", port, h, sends, want)
	}
	if wantHop := (api.Hop{In: api.End{Port: port}, Head: came(port, h), Hit: true, Prio: r.Prio, Rule: r.Match}); hop != wantHop {
		t.Errorf("port %d, %v: %+v, not %+v", port, h, hop, wantHop)
	}
	var wantBack []api.Msg
	if tell {
		wantBack = append(wantBack, told(port, h))
	}
	answers(t, "a packet", back, wantBack...)
}

// misses complains unless the packet meets no rule, and is told.
func misses(t *testing.T, u *Unit, port int, h api.Head) {
	t.Helper()
	sends, back, hop := u.Packet(port, h)
	if len(sends) != 0 {
		t.Errorf("port %d, %v: sent %v", port, h, sends)
	}
	if want := (api.Hop{In: api.End{Port: port}, Head: came(port, h)}); hop != want {
		t.Errorf("port %d, %v: %+v, not %+v", port, h, hop, want)
	}
	answers(t, "a packet", back, told(port, h))
}

// sent is a header that goes out of a port, as it came in.
func sent(at, port int, h api.Head) api.Send {
	return api.Send{Port: at, Head: came(port, h)}
}

// P13.2: the ports are 1 to MaxPorts; at others nothing happens.
func TestPorts(t *testing.T) {
	all := add(cube.All(), 1)
	for _, port := range []int{1, 2, 15, 16} {
		u := holding(t, 1, all)
		meets(t, u, port, on(5), ruleFrom(all), false, sent(1, port, on(5)))
		shows(t, u, table(counted(ruleFrom(all), 1, 0, 0)), table(counted(ruleFrom(all), 1, 0, 0)))
		misses(t, New(0), port, on(5))
	}
	for _, port := range []int{math.MinInt, math.MinInt + 1, -1 << 32, -1<<32 + 1, -65535, -16, -1, 0, 17, 18, 256, 257, 65535, 65536, 65537, 1 << 32, 1<<32 + 1, math.MaxInt} {
		for _, u := range []*Unit{New(0), holding(t, 1, all)} {
			base := u.Base()
			for _, h := range []api.Head{{}, on(5), came(1, on(5)), on(1 << 12)} {
				if sends, back, hop := u.Packet(port, h); len(sends) != 0 || len(back) != 0 || hop != (api.Hop{}) {
					t.Errorf("port %d: %v, %v and %+v", port, sends, back, hop)
				}
			}
			shows(t, u, base, base)
		}
	}
}

// P13.2: rules see the port at which the packet came in, whatever its header said before.
func TestInPort(t *testing.T) {
	three, rest := add(fixed(api.InPort, 3, 16), 2), add(cube.All(), 1)
	u := holding(t, 2, three, rest)
	for _, in := range []uint64{0, 1, 3, 4, 65535, 65536, math.MaxUint64} {
		h := api.Head{api.InPort: in, api.Src: 9}
		meets(t, u, 3, h, ruleFrom(three), false, sent(1, 3, h))
		meets(t, u, 4, h, ruleFrom(rest), false, sent(1, 4, h))
	}
	misses(t, New(0), 3, api.Head{api.InPort: math.MaxUint64})
}

// P13.2: a header that is not sound matches no rule, neither of the view nor of the base, and is told as it is.
func TestUnsoundHeaders(t *testing.T) {
	sizes := [api.Fields]int{16, 48, 48, 16, 12, 4, 32, 32, 8, 8, 12, 12}
	all := add(cube.All(), 1)
	u := holding(t, 2, all)
	takes(t, u, change(6, add(cube.All(), 2)))
	for field, size := range sizes {
		for _, v := range []uint64{1 << size, 1<<size + 1, 1 << 63, math.MaxUint64} {
			h := api.Head{api.InPort: 7, api.Vlan: 5}
			h[field] = v
			if field != api.InPort {
				misses(t, u, 16, h)
			}
		}
		h := api.Head{api.InPort: 7, api.Vlan: 5}
		h[field] = 1<<size - 1
		meets(t, holding(t, 1, all), 16, h, ruleFrom(all), false, sent(1, 16, h))
	}
	shows(t, u, added(all), added(all, add(cube.All(), 2)), 6)
}

// P13.2: the first rule of the view is the one that a packet meets.
func TestFirstRule(t *testing.T) {
	wide, narrow, high := add(cube.All(), 1), add(vlan(5), 1), add(vlan(5), 2)
	u := holding(t, 8, wide, narrow, high)
	meets(t, u, 1, on(5), ruleFrom(high), false, sent(1, 1, on(5)))
	meets(t, u, 1, on(6), ruleFrom(wide), false, sent(1, 1, on(6)))
	takes(t, u, just(api.MsgUndo, 1), change(1, of(api.DeleteIt, vlan(5), 2)))
	// Of one priority the cube that Compare puts first: the one that fixes less.
	meets(t, u, 1, on(5), ruleFrom(wide), false, sent(1, 1, on(5)))
	takes(t, u, change(1, of(api.DeleteIt, cube.All(), 1)))
	meets(t, u, 1, on(5), ruleFrom(narrow), false, sent(1, 1, on(5)))
	misses(t, u, 1, on(6))
}

// P13.2: all actions: what is sent is the header as it is then, what is told is the header as it came in, once.
func TestActions(t *testing.T) {
	set := func(field int, v uint64) api.Act { return api.Act{Kind: api.Set, Field: field, Value: v} }
	tell := api.Act{Kind: api.Tell}
	h := came(3, on(5))
	changed := h
	changed[api.Vlan] = 6
	moved := changed
	moved[api.InPort] = 9
	for _, c := range []struct {
		acts []api.Act
		sent []api.Send
		tell bool
	}{
		{nil, nil, false},
		{out(1), []api.Send{{Port: 1, Head: h}}, false},
		{out(16), []api.Send{{Port: 16, Head: h}}, false},
		{out(3), []api.Send{{Port: 3, Head: h}}, false},
		{[]api.Act{out(2)[0], out(1)[0], out(2)[0]}, []api.Send{{Port: 2, Head: h}, {Port: 1, Head: h}, {Port: 2, Head: h}}, false},
		{[]api.Act{tell}, nil, true},
		{[]api.Act{tell, tell, tell}, nil, true},
		{[]api.Act{set(api.Vlan, 6)}, nil, false},
		{[]api.Act{set(api.Vlan, 6), tell}, nil, true},
		{[]api.Act{out(1)[0], set(api.Vlan, 6), out(2)[0], tell, set(api.InPort, 9), out(3)[0]}, []api.Send{{Port: 1, Head: h}, {Port: 2, Head: changed}, {Port: 3, Head: moved}}, true},
	} {
		m := add(vlan(5), 7)
		m.Acts = c.acts
		u := New(1)
		takes(t, u, change(6, m))
		meets(t, u, 3, on(5), ruleFrom(m), c.tell, c.sent...)
		takes(t, u, just(api.MsgCommit, 6))
		meets(t, u, 3, on(5), ruleFrom(m), c.tell, c.sent...)
		// What an action does to the header does not matter to which rule it meets and which one counts it.
		shows(t, u, table(counted(ruleFrom(m), 1, 0, 0)), table(counted(ruleFrom(m), 1, 0, 0)))
	}
}

// P13.2: packets that meet a rule of the base alone, of the view alone, of both, and none: the view says what becomes of them, and the rule of the base counts them.
func TestViewAndBase(t *testing.T) {
	gone, kept, behind := add(vlan(1), 9), add(vlan(2), 9), add(vlan(3), 5)
	u := holding(t, 8, gone, kept, behind)
	u.Tick(4)
	ahead, fresh := add(vlan(3), 8), add(vlan(4), 4)
	ahead.Acts, fresh.Acts = out(12), nil
	takes(t, u, change(6, of(api.DeleteIt, vlan(1), 9)), change(6, ahead), change(7, fresh), change(7, of(api.Modify, vlan(2), 0, api.Act{Kind: api.Tell})))
	misses(t, u, 1, on(1))
	misses(t, u, 1, on(1))
	meets(t, u, 2, on(2), ruleFrom(kept), true)
	for range 3 {
		meets(t, u, 3, on(3), ruleFrom(ahead), false, sent(12, 3, on(3)))
	}
	meets(t, u, 4, on(4), ruleFrom(fresh), false)
	misses(t, u, 5, on(5))
	base := table(counted(ruleFrom(gone), 2, 0, 4), counted(ruleFrom(kept), 1, 0, 4), counted(ruleFrom(behind), 3, 0, 4))
	view := table(doing(counted(ruleFrom(kept), 1, 0, 4), api.Act{Kind: api.Tell}), counted(ruleFrom(behind), 3, 0, 4), ruleFrom(ahead), ruleFrom(fresh))
	shows(t, u, base, view, 6, 7)
	// Undone, the base has counted as it would have without them.
	takes(t, u, just(api.MsgUndo, 6), just(api.MsgUndo, 7))
	shows(t, u, base, base)
}

// P13.2: what is committed counts from then on; what it was before counts for the rules that were in the base.
func TestCountsAfterCommit(t *testing.T) {
	old, fresh := add(vlan(1), 9), add(vlan(2), 9)
	u := holding(t, 8, old)
	takes(t, u, change(6, fresh), change(6, of(api.ModifyIt, vlan(1), 9, out(2)...)), change(7, add(vlan(1), 10)))
	for range 3 {
		u.Packet(1, on(1))
		u.Packet(1, on(2))
		u.Tick(5)
	}
	shows(t, u, table(counted(ruleFrom(old), 3, 5, 15)), table(ruleFrom(add(vlan(1), 10)), doing(counted(ruleFrom(old), 3, 5, 15), out(2)...), ruleFrom(fresh)), 6, 7)
	takes(t, u, just(api.MsgCommit, 6), just(api.MsgCommit, 7))
	base := table(ruleFrom(add(vlan(1), 10)), doing(counted(ruleFrom(old), 3, 5, 15), out(2)...), ruleFrom(fresh))
	shows(t, u, base, base)
	meets(t, u, 1, on(1), base[0], false, sent(1, 1, on(1)))
	meets(t, u, 1, on(2), ruleFrom(fresh), false, sent(1, 1, on(2)))
	u.Tick(1)
	base = table(counted(ruleFrom(add(vlan(1), 10)), 1, 1, 1), doing(counted(ruleFrom(old), 3, 6, 16), out(2)...), counted(ruleFrom(fresh), 1, 1, 1))
	shows(t, u, base, base)
}

// P13.2: a rule that is added again counts from nothing when that is committed, and goes on when it is undone.
func TestCountsOfAddAgain(t *testing.T) {
	old := add(vlan(1), 9)
	for _, kind := range []int{api.MsgCommit, api.MsgUndo} {
		u := holding(t, 8, old)
		meets(t, u, 1, on(1), ruleFrom(old), false, sent(1, 1, on(1)))
		u.Tick(2)
		takes(t, u, change(6, old))
		meets(t, u, 1, on(1), ruleFrom(old), false, sent(1, 1, on(1)))
		u.Tick(3)
		shows(t, u, table(counted(ruleFrom(old), 2, 3, 5)), added(old), 6)
		takes(t, u, just(kind, 6))
		want := table(counted(ruleFrom(old), 2, 3, 5))
		if kind == api.MsgCommit {
			want = added(old)
		}
		shows(t, u, want, want)
	}
}

// P13.2: how much Tick lets pass: 0, 1, less than a rule has left, just that, more, and numbers out of range.
func TestTick(t *testing.T) {
	hard, idle, ever := lasting(add(vlan(1), 9), 0, 5), lasting(add(vlan(2), 8), 5, 0), add(vlan(3), 7)
	for n, passed := range map[int]int{
		math.MinInt: 0, -1 << 32: 0, -5: 0, -1: 0, 0: 0, 1: 1, 4: 4, 5: 5, 6: 6, 1000: 1000,
		api.MaxTime - 1: api.MaxTime - 1, api.MaxTime: api.MaxTime, api.MaxTime + 1: api.MaxTime, 1<<32 + 1: api.MaxTime, math.MaxInt: api.MaxTime,
	} {
		u := holding(t, 3, hard, idle, ever)
		takes(t, u, change(6, add(vlan(3), 7)))
		rules := []api.Rule{counted(ruleFrom(hard), 0, passed, passed), counted(ruleFrom(idle), 0, passed, passed), counted(ruleFrom(ever), 0, passed, passed)}
		back := u.Tick(n)
		if passed < 5 {
			answers(t, "Tick", back)
			shows(t, u, rules, table(rules[0], rules[1], ruleFrom(ever)), 6)
		} else {
			answers(t, "Tick", back, removed(rules[0]), removed(rules[1]))
			shows(t, u, rules[2:], added(ever), 6)
		}
	}
}

// P13.2: a hit rule stays for its idle time from then on, but not longer than its hard time; the counts are in the message.
func TestTickAfterHits(t *testing.T) {
	r := lasting(add(vlan(1), 9), 3, 7)
	u := holding(t, 1, r)
	for range 3 {
		answers(t, "Tick", u.Tick(2))
		meets(t, u, 1, on(1), ruleFrom(r), false, sent(1, 1, on(1)))
	}
	shows(t, u, table(counted(ruleFrom(r), 3, 0, 6)), table(counted(ruleFrom(r), 3, 0, 6)))
	answers(t, "Tick", u.Tick(1), removed(counted(ruleFrom(r), 3, 1, 7)))
	shows(t, u, nil, nil)
	misses(t, u, 1, on(1))
	answers(t, "Tick", u.Tick(100))
}

// P13.2: what is not committed neither ages nor lapses, and its time begins with the commit.
func TestTickWhileOpen(t *testing.T) {
	r := lasting(add(vlan(1), 9), 3, 5)
	u := New(1)
	takes(t, u, change(6, r))
	for _, n := range []int{0, 1, 3, 5, 1000, math.MaxInt} {
		answers(t, "Tick", u.Tick(n))
		meets(t, u, 1, on(1), ruleFrom(r), false, sent(1, 1, on(1)))
		shows(t, u, nil, added(r), 6)
	}
	takes(t, u, just(api.MsgCommit, 6))
	answers(t, "Tick", u.Tick(2))
	shows(t, u, table(counted(ruleFrom(r), 0, 2, 2)), table(counted(ruleFrom(r), 0, 2, 2)))
	answers(t, "Tick", u.Tick(1), removed(counted(ruleFrom(r), 0, 3, 3)))
}

// P13.2: rules that lapse while a transaction is open that deletes, modifies or adds them: they are gone from the base, and told as they were there; the view and the end of the transaction are as if they had never been.
func TestLapseWhileOpen(t *testing.T) {
	r := lasting(add(vlan(1), 9), 0, 5)
	later := lasting(r, 2, 9)
	for _, c := range []struct {
		changes     []api.Mod
		view, after []api.Rule
	}{
		{[]api.Mod{of(api.DeleteIt, vlan(1), 9)}, nil, nil},
		{[]api.Mod{of(api.Delete, cube.All(), 0)}, nil, nil},
		{[]api.Mod{of(api.Modify, vlan(1), 0, out(2)...)}, table(doing(counted(ruleFrom(r), 1, 4, 4), out(2)...)), nil},
		{[]api.Mod{of(api.ModifyIt, vlan(1), 9, out(2)...)}, table(doing(counted(ruleFrom(r), 1, 4, 4), out(2)...)), nil},
		{[]api.Mod{later}, added(later), added(later)},
		{[]api.Mod{of(api.DeleteIt, vlan(1), 9), by(2, later)}, added(by(2, later)), added(by(2, later))},
		{[]api.Mod{later, of(api.Modify, vlan(1), 0)}, table(doing(ruleFrom(later))), table(doing(ruleFrom(later)))},
		{[]api.Mod{of(api.Modify, vlan(1), 0), later}, added(later), added(later)},
	} {
		for _, end := range []int{api.MsgCommit, api.MsgUndo} {
			u := holding(t, 1, r)
			for _, m := range c.changes {
				takes(t, u, change(6, m))
			}
			u.Packet(1, on(1))
			answers(t, "Tick", u.Tick(4))
			shows(t, u, table(counted(ruleFrom(r), 1, 4, 4)), c.view, 6)
			answers(t, "Tick", u.Tick(1), removed(counted(ruleFrom(r), 1, 5, 5)))
			shows(t, u, nil, c.after, 6)
			answers(t, "Tick", u.Tick(100))
			takes(t, u, just(end, 6))
			if end == api.MsgCommit {
				shows(t, u, c.after, c.after)
			} else {
				shows(t, u, nil, nil)
			}
		}
	}
}

// P13.1, P13.2: a change that has an error by a rule of the base has its effect again once that rule has lapsed.
func TestLapseMakesRight(t *testing.T) {
	r := lasting(add(vlan(1), 9), 0, 5)
	u := holding(t, 2, r)
	takes(t, u, change(6, of(api.DeleteIt, vlan(1), 9)), change(7, by(2, add(vlan(1), 9))), just(api.MsgUndo, 6))
	shows(t, u, added(r), added(r), 7)
	answers(t, "Tick", u.Tick(5), removed(counted(ruleFrom(r), 0, 5, 5)))
	shows(t, u, nil, added(by(2, add(vlan(1), 9))), 7)
	takes(t, u, just(api.MsgCommit, 7))
	shows(t, u, added(by(2, add(vlan(1), 9))), added(by(2, add(vlan(1), 9))))
}

// P13.2: Open is ascending, in whatever order the transactions were opened.
func TestOpenAscending(t *testing.T) {
	for _, order := range orders(4) {
		u := New(1)
		for i, id := range order {
			takes(t, u, change(id, of(api.Delete, cube.All(), 0)))
			shows(t, u, nil, nil, sorted(order[:i+1])...)
		}
	}
	u := New(1)
	for _, id := range []int{maxTxn, 10, 9, 100, 0, maxTxn - 1} {
		takes(t, u, change(id, of(api.Delete, cube.All(), 0)))
	}
	shows(t, u, nil, nil, 0, 9, 10, 100, maxTxn-1, maxTxn)
}
