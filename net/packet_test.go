package net

import (
	"math"
	"slices"
	"testing"

	"podesta/api"
	"podesta/cube"
	"podesta/rule"
)

// met is the hop of a packet that met the rule of m.
func met(at api.End, h api.Head, m api.Mod) api.Hop {
	return api.Hop{In: at, Head: came(at.Port, h), Hit: true, Prio: m.Prio, Rule: m.Match}
}

// missed is the hop of a packet that met no rule.
func missed(at api.End, h api.Head) api.Hop {
	return api.Hop{In: at, Head: came(at.Port, h)}
}

// leaves is what leaves the network from a unit, which the header entered at the port in.
func leaves(unit, port, in int, h api.Head) api.Send {
	return api.Send{Port: unit*256 + port, Head: came(in, h)}
}

// goes complains unless the packet has these hops, and this leaves the network.
func goes(t *testing.T, n *Net, at api.End, h api.Head, hops []api.Hop, out ...api.Send) {
	t.Helper()
	gotHops, gotOut, e := n.Packet(at, h)
	if e != api.OK {
		t.Errorf("Packet %v, %v: error %d", at, h, e)
	}
	if !slices.Equal(gotHops, hops) {
		t.Errorf("Packet %v, %v: hops %+v, not %+v", at, h, gotHops, hops)
	}
	if !slices.Equal(gotOut, out) {
		t.Errorf("Packet %v, %v: out %+v, not %+v", at, h, gotOut, out)
	}
}

// counts complains unless the rules of the unit's base have these hits, in the order of the table.
func counts(t *testing.T, n *Net, unit int, hits ...int) {
	t.Helper()
	var got []int
	for _, r := range n.Base(unit) {
		got = append(got, r.Hits)
	}
	if !slices.Equal(got, hits) {
		t.Errorf("unit %d: hits %v, not %v", unit, got, hits)
	}
}

// line is so many units with two ports each: port 2 of each one is linked with port 1 of the next one.
func line(units int) api.Setup {
	s := setup(units, 2)
	for unit := range units - 1 {
		s.Links = append(s.Links, link(unit, 2, unit+1, 1))
	}
	return s
}

// across is a rule that sends what comes in at port 1 to port 2, and another one for the way back.
func across() []api.Mod {
	return []api.Mod{add(in(1), 5, out(2)...), add(in(2), 4, out(1)...)}
}

// P14.2: a packet goes over links from edge to edge, both ways, and each unit on its way counts it.
func TestLine(t *testing.T) {
	for units := 1; units <= 8; units++ {
		n := network(t, line(units))
		there, back := across()[0], across()[1]
		var hopsThere, hopsBack []api.Hop
		for unit := range units {
			holds(t, n, unit, across()...)
			hopsThere = append(hopsThere, met(end(unit, 1), on(5), there))
			hopsBack = slices.Insert(hopsBack, 0, met(end(unit, 2), on(5), back))
		}
		last := units - 1
		for i := range 3 {
			goes(t, n, end(0, 1), on(5), hopsThere, leaves(last, 2, 1, on(5)))
			goes(t, n, end(last, 2), on(5), hopsBack, leaves(0, 1, 2, on(5)))
			for unit := range units {
				counts(t, n, unit, i+1, i+1)
				waits(t, n, unit, 0, 0)
			}
		}
	}
}

// P14.2: Packet enters at edges only: not at ports with a link, nor at ports and units that do not exist.
func TestEdges(t *testing.T) {
	n := network(t, setup(3, 3, link(0, 2, 1, 1), link(1, 3, 1, 2)))
	for unit := range 3 {
		holds(t, n, unit, add(cube.All(), 1))
	}
	edges := []api.End{end(0, 1), end(0, 3), end(2, 1), end(2, 2), end(2, 3)}
	numbers := []int{math.MinInt, -1 << 32, -257, -3, -2, -1, 0, 1, 2, 3, 4, 5, 15, 16, 17, 255, 256, 257, 1 << 32, 1<<32 + 1, math.MaxInt}
	entered := [3]int{}
	for _, unit := range numbers {
		for _, port := range numbers {
			at := end(unit, port)
			if !slices.Contains(edges, at) {
				isRefused(t, n, at, on(5))
				isRefused(t, n, at, on(1<<12))
				continue
			}
			isRefused(t, n, at, on(1<<12))
			goes(t, n, at, on(5), []api.Hop{met(at, on(5), add(cube.All(), 1))})
			entered[unit]++
		}
	}
	if entered != [3]int{2, 0, 3} {
		t.Errorf("%v", entered)
	}
	for unit := range 3 {
		counts(t, n, unit, entered[unit])
		waits(t, n, unit, 0, 0)
	}
}

// P14.2: headers that are not sound, by each field, at an edge and elsewhere; those that just are.
func TestUnsoundHeaders(t *testing.T) {
	sizes := [api.Fields]int{16, 48, 48, 16, 12, 4, 32, 32, 8, 8, 12, 12}
	n := network(t, setup(1, 3, link(0, 2, 0, 3)))
	all := add(cube.All(), 1)
	holds(t, n, 0, all)
	for field, size := range sizes {
		for _, v := range []uint64{1 << size, 1<<size + 1, 1 << 63, math.MaxUint64} {
			h := on(5)
			h[field] = v
			for _, at := range []api.End{end(0, 1), end(0, 2), end(0, 0), end(1, 1)} {
				isRefused(t, n, at, h)
			}
		}
		counts(t, n, 0, field)
		h := on(5)
		h[field] = 1<<size - 1
		goes(t, n, end(0, 1), h, []api.Hop{met(end(0, 1), h, all)})
	}
	waits(t, n, 0, 0, 0)
}

// P14.2: the port at which a packet came in is that of each unit, whatever its header said before.
func TestInPort(t *testing.T) {
	n := network(t, setup(2, 4, link(0, 2, 1, 4)))
	first, second := add(in(3), 9, out(2)...), add(in(4), 9, api.Act{Kind: api.Set, Field: api.InPort, Value: 65535}, out(1)[0])
	holds(t, n, 0, first)
	holds(t, n, 1, second)
	for _, port := range []uint64{0, 1, 3, 4, 16, 17, 65535} {
		h := api.Head{api.InPort: port, api.Src: 9}
		goes(t, n, end(0, 3), h, []api.Hop{met(end(0, 3), h, first), met(end(1, 4), h, second)}, leaves(1, 1, 65535, h))
	}
	// What a unit makes of the field does not reach the next one.
	n = network(t, setup(2, 4, link(0, 2, 1, 4)))
	first.Acts = append([]api.Act{{Kind: api.Set, Field: api.InPort, Value: 3}}, out(2)...)
	holds(t, n, 0, first)
	holds(t, n, 1, second)
	goes(t, n, end(0, 3), on(5), []api.Hop{met(end(0, 3), on(5), first), met(end(1, 4), on(5), second)}, leaves(1, 1, 65535, on(5)))
}

// P14.2: a packet that meets no rule, at the first unit or at the next one, is told there.
func TestNoRule(t *testing.T) {
	n := network(t, line(2))
	goes(t, n, end(0, 1), on(5), []api.Hop{missed(end(0, 1), on(5))})
	hears(t, n, 0, told(1, on(5)))
	holds(t, n, 0, add(vlan(5), 1, to(6), out(2)[0]))
	goes(t, n, end(0, 1), on(5), []api.Hop{met(end(0, 1), on(5), add(vlan(5), 1)), missed(end(1, 1), on(6))})
	hears(t, n, 0)
	hears(t, n, 1, told(1, on(6)))
}

// P14.2: packets that are dropped, and packets that are told and perhaps also sent.
func TestDroppedAndTold(t *testing.T) {
	n := network(t, line(2))
	drop, say := add(vlan(1), 9), add(vlan(2), 8, tell())
	both := add(vlan(3), 7, out(1)[0], to(2), tell(), out(2)[0])
	holds(t, n, 0, drop, say, both)
	holds(t, n, 1, say)
	goes(t, n, end(0, 1), on(1), []api.Hop{met(end(0, 1), on(1), drop)})
	waits(t, n, 0, 0, 0)
	goes(t, n, end(0, 1), on(2), []api.Hop{met(end(0, 1), on(2), say)})
	hears(t, n, 0, told(1, on(2)))
	goes(t, n, end(0, 1), on(3), []api.Hop{met(end(0, 1), on(3), both), met(end(1, 1), on(2), say)}, leaves(0, 1, 1, on(3)))
	hears(t, n, 0, told(1, on(3)))
	hears(t, n, 1, told(1, on(2)))
	counts(t, n, 0, 1, 1, 1)
	counts(t, n, 1, 1)
}

// P14.2: what leaves the network has the number of its unit and port, at each edge of the largest network.
func TestEdgeNumbers(t *testing.T) {
	n := network(t, setup(8, 16))
	var high, low []int
	for port := range 8 {
		high, low = append(high, 16-port), append(low, 8-port)
	}
	for unit := range 8 {
		// A list of actions has 8 at most.
		holds(t, n, unit, add(vlan(1), 1, out(high...)...), add(vlan(2), 1, out(low...)...))
		var fromHigh, fromLow []api.Send
		for i := range 8 {
			fromHigh = append(fromHigh, leaves(unit, high[i], 16, on(1)))
			fromLow = append(fromLow, leaves(unit, low[i], 1, on(2)))
		}
		goes(t, n, end(unit, 16), on(1), []api.Hop{met(end(unit, 16), on(1), add(vlan(1), 1))}, fromHigh...)
		goes(t, n, end(unit, 1), on(2), []api.Hop{met(end(unit, 1), on(2), add(vlan(2), 1))}, fromLow...)
	}
	for unit, want := range map[int][]api.Send{
		0: {{Port: 8}, {Port: 7}, {Port: 6}, {Port: 5}, {Port: 4}, {Port: 3}, {Port: 2}, {Port: 1}},
		1: {{Port: 264}, {Port: 263}, {Port: 262}, {Port: 261}, {Port: 260}, {Port: 259}, {Port: 258}, {Port: 257}},
		7: {{Port: 1800}, {Port: 1799}, {Port: 1798}, {Port: 1797}, {Port: 1796}, {Port: 1795}, {Port: 1794}, {Port: 1793}},
	} {
		for i := range want {
			want[i].Head = api.Head{api.InPort: 9, api.Vlan: 2}
		}
		goes(t, n, end(unit, 9), on(2), []api.Hop{met(end(unit, 9), on(2), add(vlan(2), 1))}, want...)
	}
}

// P14.2: one header for each send, each as it was then, in order, the same port again too.
func TestManySends(t *testing.T) {
	n := network(t, setup(2, 4, link(0, 2, 1, 3)))
	many := add(vlan(5), 1, out(3)[0], out(2)[0], to(6), out(3)[0], out(2)[0], to(7), out(1)[0], out(4)[0])
	seven := add(cube.All(), 1, out(1, 2)...)
	holds(t, n, 0, many)
	holds(t, n, 1, seven)
	goes(t, n, end(0, 4), on(5), []api.Hop{met(end(0, 4), on(5), many), met(end(1, 3), on(5), seven), met(end(1, 3), on(6), seven)},
		leaves(0, 3, 4, on(5)), leaves(0, 3, 4, on(6)), leaves(0, 1, 4, on(7)), leaves(0, 4, 4, on(7)),
		leaves(1, 1, 3, on(5)), leaves(1, 2, 3, on(5)), leaves(1, 1, 3, on(6)), leaves(1, 2, 3, on(6)))
	counts(t, n, 0, 1)
	counts(t, n, 1, 2)
}

// P14.2: ports above those of the setup: what is sent there is dropped, whatever else is sent.
func TestPortsAbove(t *testing.T) {
	for ports := 1; ports <= 16; ports++ {
		n := network(t, setup(2, ports))
		high, low := add(vlan(1), 1, out(16, 15, 14, 13, 12, 11, 10, 9)...), add(vlan(2), 1, out(8, 7, 6, 5, 4, 3, 2, 1)...)
		holds(t, n, 1, high, low)
		for v, m := range map[uint64]api.Mod{1: high, 2: low} {
			var want []api.Send
			for _, a := range m.Acts {
				if a.Port <= ports {
					want = append(want, leaves(1, a.Port, ports, on(v)))
				}
			}
			goes(t, n, end(1, ports), on(v), []api.Hop{met(end(1, ports), on(v), m)}, want...)
		}
	}
	// Beside a link, and at a later unit.
	n := network(t, line(2))
	for unit := range 2 {
		holds(t, n, unit, add(cube.All(), 1, out(3, 2, 16)...))
	}
	goes(t, n, end(0, 1), on(5), []api.Hop{met(end(0, 1), on(5), add(cube.All(), 1)), met(end(1, 1), on(5), add(cube.All(), 1))}, leaves(1, 2, 1, on(5)))
}

// P14.2: a send to the port at which the packet came in: it leaves there, or goes back over the link.
func TestSendBack(t *testing.T) {
	n := network(t, line(2))
	home, away := add(in(2), 9, out(1)...), add(in(1), 8, out(1, 2)...)
	holds(t, n, 0, home, away)
	holds(t, n, 1, add(in(1), 9, out(1)...))
	goes(t, n, end(0, 1), on(5), []api.Hop{met(end(0, 1), on(5), away), met(end(1, 1), on(5), add(in(1), 9)), met(end(0, 2), on(5), home)},
		leaves(0, 1, 1, on(5)), leaves(0, 1, 2, on(5)))
}

// P14.2: where several headers are under way, the one that was sent first has its hop first: all those that the first unit sent, then what these became.
func TestOrderOfHops(t *testing.T) {
	// Unit 0 is linked with 1, 2 and 3, and each of these with unit 4.
	n := network(t, setup(5, 4, link(0, 2, 1, 1), link(3, 1, 0, 4), link(0, 3, 2, 1), link(1, 2, 4, 1), link(4, 2, 2, 2), link(3, 2, 4, 3)))
	spread := add(cube.All(), 1, out(4, 1, 2, 3)...)
	onward := add(cube.All(), 2, out(3, 2)...)
	last := add(cube.All(), 3, tell(), out(4)[0])
	holds(t, n, 0, spread)
	for unit := 1; unit <= 3; unit++ {
		marked := onward
		marked.Acts = append([]api.Act{to(uint64(unit))}, onward.Acts...)
		holds(t, n, unit, marked)
	}
	holds(t, n, 4, last)
	goes(t, n, end(0, 1), on(9), []api.Hop{
		met(end(0, 1), on(9), spread),
		met(end(3, 1), on(9), onward), met(end(1, 1), on(9), onward), met(end(2, 1), on(9), onward),
		met(end(4, 3), on(3), last), met(end(4, 1), on(1), last), met(end(4, 2), on(2), last),
	},
		leaves(0, 1, 1, on(9)),
		leaves(3, 3, 1, on(3)), leaves(1, 3, 1, on(1)), leaves(2, 3, 1, on(2)),
		leaves(4, 4, 3, on(3)), leaves(4, 4, 1, on(1)), leaves(4, 4, 2, on(2)))
	hears(t, n, 4, told(3, on(3)), told(1, on(1)), told(2, on(2)))
}

// P14.2: what one hop does counts for the next one, also at the same unit: there a rule of the base has a hit for each of them.
func TestSameUnitAgain(t *testing.T) {
	n := network(t, setup(1, 4, link(0, 3, 0, 2)))
	first, second, third := add(in(1), 9, to(2), out(2)[0]), add(in(3), 8, to(3), out(3)[0]), add(in(2), 7, to(4), out(4)[0])
	holds(t, n, 0, first, second, third)
	goes(t, n, end(0, 1), on(1), []api.Hop{met(end(0, 1), on(1), first), met(end(0, 3), on(2), second), met(end(0, 2), on(3), third)}, leaves(0, 4, 2, on(4)))
	counts(t, n, 0, 1, 1, 1)
}

// around is a network of one unit, in which what is sent to port 2 comes in at port 3, with a rule for each VLAN below last that counts it up and sends it on, and one that sends VLAN last to the edge at port 1.
func around(t *testing.T, last int) (*Net, []api.Mod) {
	t.Helper()
	n := network(t, setup(1, 3, link(0, 2, 0, 3)))
	var adds []api.Mod
	for v := range last {
		adds = append(adds, add(vlan(uint64(v)), 100-v, to(uint64(v+1)), out(2)[0]))
	}
	adds = append(adds, add(vlan(uint64(last)), 1, out(1)...))
	holds(t, n, 0, adds...)
	return n, adds
}

// P14.2: a packet has at most MaxHops hops; if the last one of these sends it to an edge, it leaves there, and if it has one more to go, it is dropped.
func TestMaxHops(t *testing.T) {
	for last := range 24 {
		n, adds := around(t, last)
		var hops []api.Hop
		var out []api.Send
		hits := make([]int, last+1)
		port := 1
		for v := range min(last+1, 16) {
			hops = append(hops, met(end(0, port), on(uint64(v)), adds[v]))
			hits[v] = 1
			port = 3
		}
		if last < 16 {
			out = append(out, leaves(0, 1, hops[last].In.Port, on(uint64(last))))
		}
		goes(t, n, end(0, 1), on(0), hops, out...)
		counts(t, n, 0, hits...)
		waits(t, n, 0, 0, 0)
	}
}

// P14.2: two units that send a packet to and fro: it goes round until MaxHops, and each packet has as many.
func TestToAndFro(t *testing.T) {
	n := network(t, line(2))
	echo := add(cube.All(), 1, out(1)...)
	holds(t, n, 0, add(cube.All(), 1, out(2)...))
	holds(t, n, 1, echo)
	hops := []api.Hop{met(end(0, 1), on(5), echo)}
	for len(hops) < 16 {
		hops = append(hops, met(end(1, 1), on(5), echo), met(end(0, 2), on(5), echo))
	}
	for i := range 3 {
		goes(t, n, end(0, 1), on(5), hops[:16])
		counts(t, n, 0, 8*i+8)
		counts(t, n, 1, 8*i+8)
	}
}

// P14.2: many headers under way: MaxHops is for all of them together; each hop's sends to an edge leave, those of the last one too, and the headers that remain are dropped.
func TestManyUnderWay(t *testing.T) {
	n := network(t, setup(1, 3, link(0, 2, 0, 3)))
	triple := add(cube.All(), 1, out(2, 2, 1, 2)...)
	holds(t, n, 0, triple)
	hops := []api.Hop{met(end(0, 1), on(5), triple)}
	sent := []api.Send{leaves(0, 1, 1, on(5))}
	for len(hops) < 16 {
		hops = append(hops, met(end(0, 3), on(5), triple))
		sent = append(sent, leaves(0, 1, 3, on(5)))
	}
	for i := range 3 {
		goes(t, n, end(0, 1), on(5), hops, sent...)
		counts(t, n, 0, 16*i+16)
	}
}

// P14.2: at MaxHops just those headers remain that were sent last, at whatever units.
func TestWhatRemains(t *testing.T) {
	// Unit 0 sends 8 headers to unit 1, which sends each of them twice to unit 2: after 1 and 8 hops there is room for 7 of 16.
	n := network(t, setup(3, 3, link(0, 2, 1, 1), link(1, 2, 2, 1), link(1, 3, 2, 2)))
	first := add(cube.All(), 1, out(2, 2, 2, 2, 2, 2, 2, 2)...)
	second := add(cube.All(), 2, out(3, 2)...)
	holds(t, n, 0, first)
	holds(t, n, 1, second)
	hops := []api.Hop{met(end(0, 1), on(5), first)}
	for range 8 {
		hops = append(hops, met(end(1, 1), on(5), second))
	}
	var heard []api.Msg
	for i := range 7 {
		hops = append(hops, missed(end(2, 2-i%2), on(5)))
		heard = append(heard, told(2-i%2, on(5)))
	}
	goes(t, n, end(0, 1), on(5), hops)
	counts(t, n, 0, 1)
	counts(t, n, 1, 8)
	hears(t, n, 2, heard...)
}

// P14.2: what the hops say is what the view says, and what counts is the base, at each unit of its own.
func TestPacketsWhileOpen(t *testing.T) {
	n := network(t, line(3))
	for unit := range 3 {
		holds(t, n, unit, across()...)
	}
	there := across()[0]
	ahead := add(vlan(5), 9, to(6), out(2)[0])
	takes(t, n, 0, change(1, ahead))
	takes(t, n, 1, change(1, api.Mod{Kind: api.Modify, Match: cube.All(), Acts: append(out(2), tell()), Owner: 1}))
	takes(t, n, 2, change(1, api.Mod{Kind: api.Delete, Match: cube.All(), Owner: 1}))
	goes(t, n, end(0, 1), on(5), []api.Hop{met(end(0, 1), on(5), ahead), met(end(1, 1), on(6), there), missed(end(2, 1), on(6))})
	hears(t, n, 0)
	hears(t, n, 1, told(1, on(6)))
	hears(t, n, 2, told(1, on(6)))
	for unit := range 3 {
		counts(t, n, unit, 1, 0)
		takes(t, n, unit, just(api.MsgUndo, 1))
	}
	goes(t, n, end(0, 1), on(5), []api.Hop{met(end(0, 1), on(5), there), met(end(1, 1), on(5), there), met(end(2, 1), on(5), there)}, leaves(2, 2, 1, on(5)))
}

// P14.2: the messages that wait behind a packet are those of each unit, in order, behind what waited before.
func TestToldInOrder(t *testing.T) {
	n := network(t, line(2))
	holds(t, n, 0, add(cube.All(), 1, tell(), out(2)[0]))
	holds(t, n, 1, add(vlan(1), 1, to(2), out(1)[0], tell()))
	for unit := range 2 {
		takes(t, n, unit, just(api.MsgBarrier, unit))
	}
	n.Packet(end(0, 1), on(1))
	n.Packet(end(1, 2), on(3))
	takes(t, n, 1, just(api.MsgBarrier, 9))
	hears(t, n, 0, just(api.MsgDone, 0), told(1, on(1)), told(2, on(2)))
	hears(t, n, 1, just(api.MsgDone, 1), told(1, on(1)), told(1, on(2)), told(2, on(3)), just(api.MsgDone, 9))
}

// P14.2: Tick: the moments that pass are from 0 to MaxTime, for all units; others are refused, and none passes.
func TestTick(t *testing.T) {
	for _, moments := range []int{0, 1, 4, 5, 6, 1000, api.MaxTime - 1, api.MaxTime} {
		n := network(t, setup(3, 2))
		idle, hard, ever := lasting(add(vlan(1), 9), 5, 0), lasting(add(vlan(2), 8), 0, 6), add(vlan(3), 7)
		holds(t, n, 0, idle, ever)
		holds(t, n, 1, hard, idle)
		holds(t, n, 2, ever)
		for _, wrong := range []int{math.MinInt, math.MinInt + 1, -1 << 32, -1<<32 + 5, -api.MaxTime, -5, -1, api.MaxTime + 1, 1 << 32, 1<<32 + 5, math.MaxInt} {
			if e := n.Tick(wrong); e != api.ErrArg {
				t.Errorf("Tick %d: error %d", wrong, e)
			}
		}
		if e := n.Tick(moments); e != api.OK {
			t.Errorf("Tick %d: error %d", moments, e)
		}
		for unit, l := range [][]api.Mod{{idle, ever}, {idle, hard}, {ever}} {
			var left []api.Rule
			var gone []api.Msg
			for _, m := range l {
				r := ruleFrom(m, 0, moments, moments)
				if m.Idle > 0 && moments >= 5 || m.Hard > 0 && moments >= 6 {
					gone = append(gone, removed(r))
				} else {
					left = append(left, r)
				}
			}
			shows(t, n, unit, left, left)
			hears(t, n, unit, gone...)
		}
	}
}

// P14.2: Tick adds up, a hit begins the idle time anew, and what is not committed does not age.
func TestTickAndPackets(t *testing.T) {
	n := network(t, line(2))
	idle := lasting(add(cube.All(), 1, out(2)...), 5, 0)
	holds(t, n, 0, idle)
	takes(t, n, 1, change(1, idle))
	for i := range 3 {
		n.Tick(4)
		goes(t, n, end(0, 1), on(5), []api.Hop{met(end(0, 1), on(5), idle), met(end(1, 1), on(5), idle)}, leaves(1, 2, 1, on(5)))
		shows(t, n, 0, []api.Rule{ruleFrom(idle, i+1, 0, 4*i+4)}, []api.Rule{ruleFrom(idle, i+1, 0, 4*i+4)})
		shows(t, n, 1, nil, []api.Rule{ruleFrom(idle, 0, 0, 0)})
	}
	takes(t, n, 1, just(api.MsgCommit, 1))
	n.Tick(3)
	n.Tick(2)
	hears(t, n, 0, removed(ruleFrom(idle, 3, 5, 17)))
	hears(t, n, 1, removed(ruleFrom(idle, 0, 5, 5)))
}

// P14.2: Fail is for one unit and one change of it, and waits for that.
func TestFail(t *testing.T) {
	n := network(t, setup(3, 2))
	for range 2 {
		if e := n.Fail(1); e != api.OK {
			t.Errorf("error %d", e)
		}
	}
	one, two := add(vlan(1), 1), add(vlan(2), 2)
	for _, unit := range []int{0, 1, 2} {
		waits(t, n, unit, 0, 0)
		takes(t, n, unit, just(api.MsgBarrier, 1), change(1, one), change(2, two), just(api.MsgCommit, 1), just(api.MsgCommit, 2))
	}
	both := []api.Rule{ruleFrom(two, 0, 0, 0), ruleFrom(one, 0, 0, 0)}
	shows(t, n, 0, both, both)
	shows(t, n, 1, both[:1], both[:1])
	shows(t, n, 2, both, both)
	hears(t, n, 0, just(api.MsgDone, 1))
	hears(t, n, 1, just(api.MsgDone, 1), fault(1, api.ErrAbort))
	hears(t, n, 2, just(api.MsgDone, 1))
}

// P14.2: Base and View are those of the unit, with open transactions and without.
func TestBaseAndView(t *testing.T) {
	n := network(t, setup(3, 2))
	one, two, three := add(vlan(1), 1, out(1)...), add(vlan(2), 2), add(vlan(3), 3, tell(), to(4))
	holds(t, n, 0, one, two)
	holds(t, n, 1, three)
	takes(t, n, 0, change(5, three), change(4, api.Mod{Kind: api.Delete, Match: vlan(1), Owner: 1}))
	takes(t, n, 2, change(5, one))
	r1, r2, r3 := ruleFrom(one, 0, 0, 0), ruleFrom(two, 0, 0, 0), ruleFrom(three, 0, 0, 0)
	shows(t, n, 0, []api.Rule{r2, r1}, []api.Rule{r3, r2})
	shows(t, n, 1, []api.Rule{r3}, []api.Rule{r3})
	shows(t, n, 2, nil, []api.Rule{r1})
	takes(t, n, 0, just(api.MsgCommit, 4))
	shows(t, n, 0, []api.Rule{r2}, []api.Rule{r3, r2})
	takes(t, n, 0, just(api.MsgUndo, 5))
	takes(t, n, 2, just(api.MsgCommit, 5))
	shows(t, n, 0, []api.Rule{r2}, []api.Rule{r2})
	shows(t, n, 2, []api.Rule{r1}, []api.Rule{r1})
	if !rule.Table(n.Base(0)) {
		t.Errorf("%+v", n.Base(0))
	}
}
