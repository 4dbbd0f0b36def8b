package net

import (
	"bytes"
	"slices"
	"testing"

	"podesta/api"
	"podesta/code"
	"podesta/cube"
	"podesta/unit"
)

// answers lets the unit answer n messages, and returns the answers, which wait now: no two are equal.
func answers(t *testing.T, n *Net, unit, count int) []api.Msg {
	t.Helper()
	var l []api.Msg
	for i := range count {
		takes(t, n, unit, just(api.MsgBarrier, i))
		l = append(l, just(api.MsgDone, i))
	}
	return l
}

// P14.1: a pipe down has room for MaxPipe elements, each one of its own, and again for one behind a Down.
func TestSendFull(t *testing.T) {
	n := network(t, setup(3, 1))
	for i := range api.MaxPipe {
		waits(t, n, 1, i, 0)
		sends(t, n, 1, bytesOf(just(api.MsgBarrier, i)))
	}
	full := func() {
		t.Helper()
		for _, b := range [][]byte{nil, {}, []byte("?"), bytesOf(just(api.MsgBarrier, 7))} {
			if e := n.Send(1, b); e != api.ErrFull {
				t.Errorf("Send %v: error %d", b, e)
			}
			waits(t, n, 1, api.MaxPipe, 0)
		}
	}
	full()
	for _, unit := range []int{0, 2} {
		waits(t, n, unit, 0, 0)
		sends(t, n, unit, bytesOf(just(api.MsgAsk, unit)))
		waits(t, n, unit, 1, 0)
	}
	for i := range 3 {
		downs(t, n, 1)
		waits(t, n, 1, api.MaxPipe-1, 1)
		sends(t, n, 1, bytesOf(just(api.MsgBarrier, api.MaxPipe+i)))
		gives(t, n, 1, just(api.MsgDone, i))
		full()
	}
	// What was refused is not there, and the others are in their order.
	for i := range api.MaxPipe {
		downs(t, n, 1)
		waits(t, n, 1, api.MaxPipe-1-i, 1)
		gives(t, n, 1, just(api.MsgDone, 3+i))
	}
	if e := n.Down(1); e != api.ErrNone {
		t.Errorf("Down: error %d", e)
	}
}

// P14.1: a pipe down that is full of no bytes at all.
func TestSendNothing(t *testing.T) {
	n := network(t, setup(1, 1))
	for i := range api.MaxPipe {
		sends(t, n, 0, [][]byte{nil, {}}[i%2])
	}
	if e := n.Send(0, nil); e != api.ErrFull {
		t.Errorf("error %d", e)
	}
	waits(t, n, 0, api.MaxPipe, 0)
	for i := range 3 {
		downs(t, n, 0)
		waits(t, n, 0, api.MaxPipe-1-i, 1)
		hears(t, n, 0, fault(0, api.ErrEnd))
	}
}

// R4: bytes that are sent may be written into afterwards, they and their spare capacity are not changed, and what was behind them is not sent.
func TestSentBytes(t *testing.T) {
	n := network(t, setup(1, 1))
	roomy := append(bytesOf(just(api.MsgBarrier, 7)), bytesOf(just(api.MsgBarrier, 8))...)
	before := bytes.Clone(roomy)
	sends(t, n, 0, roomy[:5])
	sends(t, n, 0, roomy[5:])
	sends(t, n, 0, roomy[:0])
	if !bytes.Equal(roomy, before) {
		t.Errorf("%v, not %v", roomy, before)
	}
	clear(roomy)
	for range 3 {
		downs(t, n, 0)
	}
	if !bytes.Equal(roomy, make([]byte, 10)) {
		t.Errorf("%v", roomy)
	}
	hears(t, n, 0, just(api.MsgDone, 7), just(api.MsgDone, 8), fault(0, api.ErrEnd))
}

// everyKind is sound messages of each kind, those of which units send some too.
func everyKind() []api.Msg {
	r := ruleFrom(add(vlan(5), 7, out(1, 2)...), 3, 2, 1)
	return []api.Msg{
		change(6, add(vlan(3), 3, to(9), out(1)[0], tell())), change(6, lasting(add(vlan(4), 3), 8, 9)), change(6, api.Mod{Kind: api.Modify, Match: vlan(1), Acts: out(2), Owner: 1}),
		change(6, api.Mod{Kind: api.Delete, Match: vlan(2), Owner: 1}), change(6, api.Mod{Kind: api.ModifyIt, Match: vlan(1), Prio: 1, Owner: 1}), change(6, api.Mod{Kind: api.DeleteIt, Match: vlan(1), Prio: 1, Owner: 1}),
		change(6, api.Mod{Kind: api.Add, Match: vlan(1), Prio: 1, Owner: 2}), change(7, api.Mod{Kind: api.Add, Match: cube.All(), Prio: 1, Owner: 1, Check: true}), change(1<<32-1, add(vlan(6), api.MaxPrio)), change(0, add(vlan(7), 0)),
		just(api.MsgBarrier, 0), just(api.MsgBarrier, 1<<32-1), just(api.MsgAsk, 6), just(api.MsgCommit, 6), just(api.MsgCommit, 99), just(api.MsgUndo, 6), just(api.MsgUndo, 99),
		fault(6, api.ErrForm), fault(0, api.ErrDone), just(api.MsgDone, 6), just(api.MsgDone, 0),
		told(1, on(5)), {Kind: api.MsgPacket, Txn: 6, Port: 16}, removed(r), {Kind: api.MsgRemoved, Txn: 6, Rules: []api.Rule{r}},
		{Kind: api.MsgStats, Txn: 6}, {Kind: api.MsgStats, Txn: 6, Rules: []api.Rule{r, ruleFrom(add(vlan(5), 6), 0, 0, 0)}},
	}
}

// P14.1: Down: messages of each kind, one behind another in any order, do and answer what the unit itself does and answers.
func TestDown(t *testing.T) {
	l := everyKind()
	for from := range l {
		n, u := network(t, setup(2, 2)), unit.New(api.MaxRules)
		holds(t, n, 1, add(vlan(1), 1), add(vlan(2), 2))
		for _, m := range []api.Msg{change(1, add(vlan(1), 1)), change(1, add(vlan(2), 2)), just(api.MsgCommit, 1)} {
			u.Take(m)
		}
		for i := range l {
			m := l[(from+i*5)%len(l)]
			sends(t, n, 1, bytesOf(m))
			shows(t, n, 1, u.Base(), u.View())
			waits(t, n, 1, 1, 0)
			want := u.Take(m)
			downs(t, n, 1)
			waits(t, n, 1, 0, len(want))
			shows(t, n, 1, u.Base(), u.View())
			hears(t, n, 1, want...)
		}
		shows(t, n, 0, nil, nil)
		waits(t, n, 0, 0, 0)
	}
}

// P14.1: Down with nothing waiting returns ErrNone each time, and does nothing.
func TestDownNone(t *testing.T) {
	n := network(t, setup(2, 2))
	holds(t, n, 0, add(vlan(1), 1))
	sends(t, n, 1, bytesOf(just(api.MsgBarrier, 1)))
	for range 3 {
		if e := n.Down(0); e != api.ErrNone {
			t.Errorf("error %d", e)
		}
		waits(t, n, 0, 0, 0)
		waits(t, n, 1, 1, 0)
		shows(t, n, 0, []api.Rule{ruleFrom(add(vlan(1), 1), 0, 0, 0)}, []api.Rule{ruleFrom(add(vlan(1), 1), 0, 0, 0)})
	}
}

// P14.1: bytes that are no message: the answer is the error of Decode, with Txn 0, and no table changes.
func TestDownGarbage(t *testing.T) {
	n := network(t, setup(2, 2))
	holds(t, n, 0, add(vlan(1), 1))
	takes(t, n, 0, change(6, add(vlan(2), 2)))
	base, view := n.Base(0), n.View(0)
	seen := map[api.Errno]int{}
	garbage := [][]byte{
		nil, {}, {0}, {1}, {2}, {11}, {255}, []byte("?"), []byte("Hello, unit 0!"), {2, 0, 0, 0}, {2, 0, 0, 0, 6, 0}, {3, 0, 0, 0, 6, 0}, {4, 0, 0, 0, 6, 6},
		{0, 0, 0, 0, 6}, {11, 0, 0, 0, 6}, {255, 255, 255, 255, 255}, {11, 0, 0, 0, 6, 0}, {6, 0, 0, 0, 6, 0}, {6, 0, 0, 0, 6, 18}, {6, 0, 0, 0, 6}, {9, 0, 0, 0, 6, 0, 0}, {10, 0, 0, 0, 6, 255, 255},
		bytes.Repeat([]byte{255}, 70000), make([]byte, 70000),
	}
	for _, m := range everyKind() {
		b := bytesOf(m)
		garbage = append(garbage, b[:len(b)-1], append(bytes.Clone(b), 0), append(bytes.Clone(b), b...))
		for _, at := range []int{0, 5, len(b) - 1} {
			if at < len(b) {
				c := bytes.Clone(b)
				c[at] = 200
				garbage = append(garbage, c)
			}
		}
	}
	for _, b := range garbage {
		_, e := code.Decode(b)
		if e == api.OK {
			continue
		}
		seen[e]++
		sends(t, n, 0, b)
		waits(t, n, 0, 1, 0)
		downs(t, n, 0)
		waits(t, n, 0, 0, 1)
		hears(t, n, 0, fault(0, e))
		shows(t, n, 0, base, view)
	}
	if seen[api.ErrEnd] < 20 || seen[api.ErrForm] < 20 {
		t.Errorf("too few errors: %v", seen)
	}
	// The transaction goes on, and no change was refused.
	takes(t, n, 0, change(6, add(vlan(3), 3)), just(api.MsgCommit, 6))
	shows(t, n, 0, n.View(0), []api.Rule{ruleFrom(add(vlan(3), 3), 0, 0, 0), ruleFrom(add(vlan(2), 2), 0, 0, 0), ruleFrom(add(vlan(1), 1), 0, 0, 0)})
	waits(t, n, 1, 0, 0)
	shows(t, n, 1, nil, nil)
}

// P14.1: garbage between messages: each element is one of its own.
func TestGarbageBetween(t *testing.T) {
	n := network(t, setup(1, 2))
	whole := bytesOf(change(6, add(vlan(2), 2)))
	for _, b := range [][]byte{whole[:100], whole[100:], whole, nil, bytesOf(just(api.MsgAsk, 7)), {0, 0, 0, 0, 0}, bytesOf(just(api.MsgCommit, 6)), bytesOf(just(api.MsgAsk, 8))} {
		sends(t, n, 0, b)
	}
	for i := range 8 {
		waits(t, n, 0, 8-i, []int{0, 1, 2, 2, 3, 4, 5, 5}[i])
		downs(t, n, 0)
	}
	r := ruleFrom(add(vlan(2), 2), 0, 0, 0)
	second := fault(0, api.ErrForm)
	if _, e := code.Decode(whole[100:]); e == api.ErrEnd {
		second.E = e
	}
	hears(t, n, 0, fault(0, api.ErrEnd), second, fault(0, api.ErrEnd), just(api.MsgStats, 7), fault(0, api.ErrForm), api.Msg{Kind: api.MsgStats, Txn: 8, Rules: []api.Rule{r}})
}

// P14.1: answers of several units: each pipe has its own, in their order, and Back takes one at a time.
func TestBackOrder(t *testing.T) {
	n := network(t, setup(4, 2))
	for i := range 5 {
		for _, unit := range []int{3, 0, 2} {
			takes(t, n, unit, just(api.MsgBarrier, 10*unit+i))
			if i == 2 {
				n.Packet(end(unit, 2), on(uint64(unit)))
				takes(t, n, unit, change(4, api.Mod{Kind: api.Delete, Match: vlan(1)}), just(api.MsgAsk, 5), just(api.MsgDone, 6))
			}
		}
	}
	for i := range 5 {
		for _, unit := range []int{0, 2, 3} {
			gives(t, n, unit, just(api.MsgDone, 10*unit+i))
			if i == 2 {
				waits(t, n, unit, 0, 5)
				gives(t, n, unit, told(2, on(uint64(unit))))
				gives(t, n, unit, just(api.MsgStats, 5))
				gives(t, n, unit, fault(6, api.ErrForm))
			}
		}
	}
	for unit := range 4 {
		hears(t, n, unit)
	}
}

// P14.1: Back with nothing waiting returns ErrNone each time, whatever waits elsewhere.
func TestBackNone(t *testing.T) {
	n := network(t, setup(2, 2))
	sends(t, n, 0, bytesOf(just(api.MsgBarrier, 1)))
	takes(t, n, 1, just(api.MsgBarrier, 2))
	for range 3 {
		if m, e := n.Back(0); e != api.ErrNone || !code.Same(m, api.Msg{}) {
			t.Errorf("%+v and error %d", m, e)
		}
		waits(t, n, 0, 1, 0)
		waits(t, n, 1, 0, 1)
	}
	downs(t, n, 0)
	hears(t, n, 0, just(api.MsgDone, 1))
	hears(t, n, 1, just(api.MsgDone, 2))
}

// cause is something by which unit 0 answers.
type cause struct {
	name string
	do   func(*Net)
	want api.Msg
	most int // the answer is lost if so many messages wait, or more
}

// short is an Add of a rule that lapses after 5 moments.
func short() api.Mod {
	return lasting(add(vlan(9), 9), 0, 5)
}

// causes is something for each kind of answer, for a unit that has room for two rules, and the rule short alone.
func causes() []cause {
	down := func(b []byte) func(*Net) {
		return func(n *Net) {
			n.Send(0, b)
			n.Down(0)
		}
	}
	return []cause{
		{"packet", func(n *Net) { n.Packet(end(0, 1), on(5)) }, told(1, on(5)), 1024},
		{"removed", func(n *Net) { n.Tick(5) }, removed(ruleFrom(short(), 0, 5, 5)), 1024},
		{"barrier", down(bytesOf(just(api.MsgBarrier, 1<<20))), just(api.MsgDone, 1<<20), 4096},
		{"ask", down(bytesOf(just(api.MsgAsk, 7))), api.Msg{Kind: api.MsgStats, Txn: 7, Rules: []api.Rule{ruleFrom(short(), 0, 0, 0)}}, 4096},
		{"refused", down(bytesOf(change(6, api.Mod{Kind: api.Add, Match: vlan(9), Prio: 9, Owner: 2}))), fault(6, api.ErrOwner), 4096},
		{"from a unit", down(bytesOf(told(1, on(5)))), fault(0, api.ErrForm), 4096},
		{"garbage", down([]byte("?")), fault(0, api.ErrEnd), 4096},
	}
}

// P14.1: an answer is lost if the pipe back is full, and a MsgPacket or a MsgRemoved also from 1024 messages on; all others that wait stay.
func TestLost(t *testing.T) {
	for _, c := range causes() {
		for _, count := range []int{0, 1, 1000, 1022, 1023, 1024, 1025, 2048, 4094, 4095, 4096} {
			n := network(t, setup(2, 2))
			holds(t, n, 0, short())
			want := answers(t, n, 0, count)
			c.do(n)
			if count < c.most {
				want = append(want, c.want)
			}
			if _, back := n.Waiting(0); back != len(want) {
				t.Errorf("%s behind %d: %d wait, not %d", c.name, count, back, len(want))
			}
			hears(t, n, 0, want...)
			if _, back := n.Waiting(1); back != 0 {
				t.Errorf("%s: %d wait at the other unit", c.name, back)
			}
		}
	}
}

// P14.1: what one unit has waiting does not matter to the answers of another one.
func TestLostElsewhere(t *testing.T) {
	for _, c := range causes() {
		n := network(t, setup(2, 2))
		holds(t, n, 0, short())
		other := answers(t, n, 1, api.MaxPipe)
		c.do(n)
		hears(t, n, 0, c.want)
		hears(t, n, 1, other...)
	}
}

// P14.1: how many messages wait in the pipe down does not matter to what is lost.
func TestDownIsNotBack(t *testing.T) {
	n := network(t, setup(1, 2))
	holds(t, n, 0, short())
	for i := range api.MaxPipe {
		sends(t, n, 0, bytesOf(just(api.MsgBarrier, i)))
	}
	n.Packet(end(0, 1), on(5))
	n.Tick(5)
	waits(t, n, 0, api.MaxPipe, 2)
	downs(t, n, 0)
	hears(t, n, 0, told(1, on(5)), removed(ruleFrom(short(), 0, 5, 5)), just(api.MsgDone, 0))
}

// P14.1: as soon as one message has been taken from the pipe back there is room again.
func TestRoomAgain(t *testing.T) {
	for _, most := range []int{1024, 4096} {
		n := network(t, setup(1, 2))
		want := answers(t, n, 0, most)
		for i := range 3 {
			m := told(1, on(5))
			if most == 4096 {
				m = just(api.MsgDone, 9999)
			}
			cause := func() {
				if most == 4096 {
					takes(t, n, 0, just(api.MsgBarrier, 9999))
				} else {
					n.Packet(end(0, 1), on(5))
				}
			}
			cause()
			waits(t, n, 0, 0, most)
			gives(t, n, 0, want[i])
			waits(t, n, 0, 0, most-1)
			cause()
			waits(t, n, 0, 0, most)
			want = append(want, m)
		}
		hears(t, n, 0, want[3:]...)
	}
}

// P14.1: a message whose answer is lost was taken all the same: changes, commits, what was refused, and garbage.
func TestTakenAllTheSame(t *testing.T) {
	n := network(t, setup(1, 2))
	want := answers(t, n, 0, api.MaxPipe)
	two, three := add(vlan(2), 2), add(vlan(3), 3)
	wrong := two
	wrong.Owner = 2
	// The second change of transaction 7 is refused, so the third one is ignored.
	l := []api.Msg{change(6, two), just(api.MsgAsk, 6), just(api.MsgBarrier, 6), change(7, add(vlan(4), 4)), change(7, wrong), change(7, three), just(api.MsgDone, 1), just(api.MsgCommit, 6), just(api.MsgCommit, 7)}
	for _, m := range l {
		sends(t, n, 0, bytesOf(m))
	}
	sends(t, n, 0, []byte("?"))
	for i := range len(l) + 1 {
		waits(t, n, 0, len(l)+1-i, api.MaxPipe)
		downs(t, n, 0)
	}
	waits(t, n, 0, 0, api.MaxPipe)
	after := []api.Rule{ruleFrom(add(vlan(4), 4), 0, 0, 0), ruleFrom(two, 0, 0, 0)}
	shows(t, n, 0, after, after)
	hears(t, n, 0, want...)
}

// P14.1, P14.2: a packet and a rule that lapses of which nobody is told: they were counted, and it is gone.
func TestUntold(t *testing.T) {
	n := network(t, setup(1, 2))
	told := add(vlan(5), 5, tell(), out(2)[0])
	holds(t, n, 0, short(), told)
	want := answers(t, n, 0, 1024)
	hops, out, e := n.Packet(end(0, 1), on(5))
	if e != api.OK || len(hops) != 1 || len(out) != 1 {
		t.Errorf("%+v, %+v and error %d", hops, out, e)
	}
	if e := n.Tick(5); e != api.OK {
		t.Errorf("error %d", e)
	}
	after := []api.Rule{ruleFrom(told, 1, 5, 5)}
	shows(t, n, 0, after, after)
	hears(t, n, 0, want...)
}

// lapsing is Adds of rules that are gone after 5 moments, and what tells of them, in the order of the table.
func lapsing(count int) ([]api.Mod, []api.Msg) {
	var adds []api.Mod
	var gone []api.Msg
	for i := range count {
		m := lasting(add(vlan(uint64(i)), 100-i), 5, 0)
		adds = append(adds, m)
		gone = append(gone, removed(ruleFrom(m, 0, 5, 5)))
	}
	return adds, gone
}

// P14.1: several answers of one Tick: those for which there is room are there, the first ones, and the others are lost.
func TestTickAcrossTheBound(t *testing.T) {
	for _, count := range []int{0, 1000, 1018, 1019, 1020, 1021, 1022, 1023, 1024, 1025, 4095, 4096} {
		n := network(t, setup(2, 2))
		adds, gone := lapsing(6)
		for unit := range 2 {
			holds(t, n, unit, adds...)
		}
		want := answers(t, n, 1, count)
		if e := n.Tick(5); e != api.OK {
			t.Errorf("error %d", e)
		}
		hears(t, n, 1, append(want, gone[:max(0, min(6, 1024-count))]...)...)
		hears(t, n, 0, gone...)
		for unit := range 2 {
			shows(t, n, unit, nil, nil)
		}
	}
}

// P14.1: several answers of one packet, which comes to the unit again and again: those for which there is room are there.
func TestPacketAcrossTheBound(t *testing.T) {
	for _, count := range []int{0, 1007, 1008, 1009, 1020, 1023, 1024, 1025, 4096} {
		n := network(t, setup(1, 3, link(0, 2, 0, 3)))
		around := add(cube.All(), 1, tell(), to(6), out(2)[0])
		holds(t, n, 0, around)
		want := answers(t, n, 0, count)
		n.Packet(end(0, 1), on(5))
		all := append([]api.Msg{told(1, on(5))}, slices.Repeat([]api.Msg{told(3, on(6))}, 15)...)
		hears(t, n, 0, append(want, all[:max(0, min(16, 1024-count))]...)...)
		shows(t, n, 0, []api.Rule{ruleFrom(around, 16, 0, 0)}, []api.Rule{ruleFrom(around, 16, 0, 0)})
	}
}
