package topo

import (
	"fmt"
	"math"
	"math/rand"
	"slices"
	"testing"

	"podesta/api"
)

// end is port port of unit unit.
func end(unit, port int) api.End {
	return api.End{Unit: unit, Port: port}
}

// link is a link of two ports.
func link(unitA, portA, unitB, portB int) api.Link {
	return api.Link{A: end(unitA, portA), B: end(unitB, portB)}
}

// turned is l with its ends exchanged.
func turned(l api.Link) api.Link {
	return api.Link{A: l.B, B: l.A}
}

// setup is a setup with room for one rule.
func setup(units, ports int, links ...api.Link) api.Setup {
	return api.Setup{Units: units, Ports: ports, Room: 1, Links: links}
}

// allPorts is all ports of so many units with so many ports, in order.
func allPorts(units, ports int) []api.End {
	var l []api.End
	for unit := range units {
		for port := range ports {
			l = append(l, end(unit, port+1))
		}
	}
	return l
}

// inPairs is links of these ends: the first and the second one, and so on.
func inPairs(ends []api.End) []api.Link {
	var l []api.Link
	for i := 0; i+1 < len(ends); i += 2 {
		l = append(l, api.Link{A: ends[i], B: ends[i+1]})
	}
	return l
}

// with is a copy of the links in which l stands at the place at.
func with(links []api.Link, at int, l api.Link) []api.Link {
	return slices.Insert(slices.Clone(links), at, l)
}

// plainSound is what the chapter says of Sound, as directly as can be.
func plainSound(s api.Setup) api.Errno {
	if s.Units < 1 || s.Units > 8 || s.Ports < 1 || s.Ports > 16 || s.Room < 0 || s.Room > 32 {
		return api.ErrRange
	}
	ports := allPorts(s.Units, s.Ports)
	var before []api.End
	for _, l := range s.Links {
		for _, e := range []api.End{l.A, l.B} {
			if !slices.Contains(ports, e) || slices.Contains(before, e) {
				return api.ErrForm
			}
			before = append(before, e)
		}
	}
	return api.OK
}

// plainOther is what the chapter says of Other.
func plainOther(s api.Setup, e api.End) (api.End, bool) {
	if plainSound(s) == api.OK {
		for _, l := range s.Links {
			switch e {
			case l.A:
				return l.B, true
			case l.B:
				return l.A, true
			}
		}
	}
	return api.End{}, false
}

// plainEdges is what the chapter says of Edges.
func plainEdges(s api.Setup) []api.End {
	if plainSound(s) != api.OK {
		return nil
	}
	return slices.DeleteFunc(allPorts(s.Units, s.Ports), func(e api.End) bool {
		_, linked := plainOther(s, e)
		return linked
	})
}

// around is ends of all kinds for s: its ports, those next to them, ends of its links, and extreme ones.
func around(s api.Setup) []api.End {
	units, ports := max(1, min(s.Units, 9)), max(1, min(s.Ports, 17))
	l := []api.End{
		end(math.MinInt, 1), end(math.MaxInt, 1), end(0, math.MinInt), end(0, math.MaxInt),
		end(math.MinInt, math.MinInt), end(math.MaxInt, math.MaxInt),
	}
	for unit := -1; unit <= units; unit++ {
		for port := -1; port <= ports+1; port++ {
			l = append(l, end(unit, port))
		}
	}
	for _, x := range s.Links[:min(len(s.Links), 200)] {
		l = append(l, x.A, x.B)
	}
	return l
}

// sound complains unless Sound returns want.
func sound(t *testing.T, s api.Setup, want api.Errno) {
	t.Helper()
	if e := Sound(s); e != want {
		t.Errorf("Sound(%s): %d, not %d", text(s), e, want)
	}
}

// other complains unless Other returns want and true.
func other(t *testing.T, s api.Setup, e, want api.End) {
	t.Helper()
	if x, ok := Other(s, e); !ok || x != want {
		t.Errorf("Other(%s, %v): %v and %v, not %v and true", text(s), e, x, ok, want)
	}
}

// alone complains unless Other returns the zero end and false.
func alone(t *testing.T, s api.Setup, e api.End) {
	t.Helper()
	if x, ok := Other(s, e); ok || x != (api.End{}) {
		t.Errorf("Other(%s, %v): %v and %v, not the zero end and false", text(s), e, x, ok)
	}
}

// edges complains unless Edges returns want.
func edges(t *testing.T, s api.Setup, want ...api.End) {
	t.Helper()
	if l := Edges(s); !slices.Equal(l, want) {
		t.Errorf("Edges(%s): %v, not %v", text(s), l, want)
	}
}

// text is s, without most of its links if there are many.
func text(s api.Setup) string {
	if len(s.Links) > 10 {
		n := len(s.Links)
		s.Links = s.Links[:10]
		return fmt.Sprintf("%v and so on, %d links", s, n)
	}
	return fmt.Sprint(s)
}

// agrees complains unless all functions return what the chapter says, and want is what Sound returns.
func agrees(t *testing.T, s api.Setup, want api.Errno) {
	t.Helper()
	sound(t, s, want)
	if plain := plainSound(s); plain != want {
		t.Errorf("the test of %s: %d, not %d", text(s), plain, want)
	}
	for _, e := range around(s) {
		if x, ok := plainOther(s, e); ok {
			other(t, s, e, x)
		} else {
			alone(t, s, e)
		}
	}
	edges(t, s, plainEdges(s)...)
}

// wrong complains unless Sound returns want and the other functions return nothing.
func wrong(t *testing.T, s api.Setup, want api.Errno) {
	t.Helper()
	sound(t, s, want)
	edges(t, s)
	for _, e := range around(s) {
		alone(t, s, e)
	}
}

// P12.1: the example.
func TestExample(t *testing.T) {
	s := setup(2, 2, link(0, 2, 1, 1))
	other(t, s, end(0, 2), end(1, 1))
	other(t, s, end(1, 1), end(0, 2))
	alone(t, s, end(0, 1))
	alone(t, s, end(1, 2))
	edges(t, s, end(0, 1), end(1, 2))
	sound(t, s, api.OK)
}

// soundSetups is setups in which nothing is wrong.
func soundSetups() []api.Setup {
	return []api.Setup{
		{Units: 1, Ports: 1},
		{Units: 1, Ports: 1, Room: 32, Links: []api.Link{}},
		setup(1, 2, link(0, 1, 0, 2)),
		setup(1, 2, link(0, 2, 0, 1)),
		setup(2, 1, link(0, 1, 1, 1)),
		setup(2, 1, link(1, 1, 0, 1)),
		setup(2, 2, link(0, 2, 1, 1)),
		setup(2, 2, link(0, 1, 1, 2), link(1, 1, 0, 2)),
		setup(2, 3, link(0, 1, 0, 3), link(1, 3, 1, 1), link(0, 2, 1, 2)),
		setup(3, 4, link(2, 4, 0, 1), link(1, 2, 1, 3), link(0, 4, 2, 1)),
		setup(4, 3, link(0, 2, 1, 1), link(1, 2, 2, 1), link(2, 2, 3, 1), link(3, 2, 0, 1)),
		setup(4, 4, link(0, 1, 1, 1), link(0, 2, 1, 2), link(0, 3, 1, 3), link(0, 4, 1, 4)),
		setup(8, 16),
		setup(8, 16, link(7, 16, 0, 1)),
		setup(8, 16, link(7, 16, 7, 15), link(0, 1, 0, 2)),
		setup(8, 16, inPairs(allPorts(8, 16))...),
		setup(8, 1, inPairs(allPorts(8, 1))...),
		setup(1, 16, inPairs(allPorts(1, 16))...),
		setup(7, 15, inPairs(allPorts(7, 15))...),
	}
}

// P12.1: sound setups, with all that Other and Edges say of them, also with other limits, which are far enough.
func TestSoundSetups(t *testing.T) {
	for _, s := range soundSetups() {
		agrees(t, s, api.OK)
		for _, room := range []int{0, 1, 31, 32} {
			s.Room = room
			agrees(t, s, api.OK)
		}
		s.Units, s.Ports = 8, 16
		agrees(t, s, api.OK)
	}
}

// P12.1: the same with the links turned round and in another order.
func TestOrderOfLinks(t *testing.T) {
	for _, s := range soundSetups() {
		want := Edges(s)
		links := slices.Clone(s.Links)
		for i := range s.Links {
			s.Links = slices.Clone(links)
			s.Links[i] = turned(s.Links[i])
			agrees(t, s, api.OK)
			edges(t, s, want...)
		}
		s.Links = slices.Clone(links)
		slices.Reverse(s.Links)
		agrees(t, s, api.OK)
		edges(t, s, want...)
	}
}

// P12.1: Other of both ends of each link, and of each port without one.
func TestOther(t *testing.T) {
	s := setup(3, 4, link(0, 1, 1, 4), link(2, 2, 2, 3), link(1, 1, 0, 4))
	other(t, s, end(0, 1), end(1, 4))
	other(t, s, end(1, 4), end(0, 1))
	other(t, s, end(2, 2), end(2, 3))
	other(t, s, end(2, 3), end(2, 2))
	other(t, s, end(1, 1), end(0, 4))
	other(t, s, end(0, 4), end(1, 1))
	for _, e := range []api.End{end(0, 2), end(0, 3), end(1, 2), end(1, 3), end(2, 1), end(2, 4)} {
		alone(t, s, e)
	}
	full := setup(8, 16, inPairs(allPorts(8, 16))...)
	for _, l := range full.Links {
		other(t, full, l.A, l.B)
		other(t, full, l.B, l.A)
	}
}

// P12.1: Other of an end that is no port.
func TestOtherOfNoPort(t *testing.T) {
	s := setup(2, 3, link(0, 1, 1, 3), link(0, 3, 1, 1))
	for _, e := range badEnds(2, 3) {
		alone(t, s, e)
	}
	alone(t, s, end(3, 1))
	alone(t, s, end(1, 0))
	alone(t, setup(1, 1), api.End{})
	alone(t, setup(8, 16, inPairs(allPorts(8, 16))...), api.End{})
}

// P12.1: Edges with some, all and none of the ports linked, by unit and then by port.
func TestEdges(t *testing.T) {
	edges(t, setup(1, 1), end(0, 1))
	edges(t, setup(1, 3), end(0, 1), end(0, 2), end(0, 3))
	edges(t, setup(3, 1), end(0, 1), end(1, 1), end(2, 1))
	edges(t, setup(2, 2), end(0, 1), end(0, 2), end(1, 1), end(1, 2))
	edges(t, setup(2, 2, link(1, 2, 0, 1)), end(0, 2), end(1, 1))
	edges(t, setup(2, 2, link(0, 1, 0, 2)), end(1, 1), end(1, 2))
	edges(t, setup(2, 2, link(1, 1, 1, 2)), end(0, 1), end(0, 2))
	edges(t, setup(2, 2, link(1, 1, 0, 2), link(0, 1, 1, 2)))
	edges(t, setup(1, 2, link(0, 2, 0, 1)))
	edges(t, setup(3, 12, link(2, 12, 0, 2), link(1, 1, 1, 10)),
		end(0, 1), end(0, 3), end(0, 4), end(0, 5), end(0, 6), end(0, 7), end(0, 8), end(0, 9), end(0, 10), end(0, 11), end(0, 12),
		end(1, 2), end(1, 3), end(1, 4), end(1, 5), end(1, 6), end(1, 7), end(1, 8), end(1, 9), end(1, 11), end(1, 12),
		end(2, 1), end(2, 2), end(2, 3), end(2, 4), end(2, 5), end(2, 6), end(2, 7), end(2, 8), end(2, 9), end(2, 10), end(2, 11))
	all := allPorts(8, 16)
	edges(t, setup(8, 16), all...)
	edges(t, setup(8, 16, inPairs(all)...))
	edges(t, setup(8, 16, inPairs(all[:126])...), all[126:]...)
	edges(t, setup(8, 16, inPairs(all[2:])...), all[:2]...)
	edges(t, setup(7, 15, inPairs(allPorts(7, 15))...), end(6, 15))
}

// outOf is numbers that are not from least to most.
func outOf(least, most int) []int {
	return []int{least - 1, most + 1, least - 2, most + 2, -1, -2, -1000, 1000, math.MinInt32, math.MaxInt32, math.MinInt, math.MinInt + 1, math.MaxInt, math.MaxInt - 1}
}

// P12.1: Units, Ports and Room at each number from the first to the last one, and out of that range.
func TestRange(t *testing.T) {
	for units := 1; units <= 8; units++ {
		for ports := 1; ports <= 16; ports++ {
			agrees(t, setup(units, ports), api.OK)
		}
	}
	for room := 0; room <= 32; room++ {
		agrees(t, api.Setup{Units: 1, Ports: 1, Room: room}, api.OK)
		agrees(t, api.Setup{Units: 8, Ports: 16, Room: room, Links: inPairs(allPorts(8, 16))}, api.OK)
	}
	for _, s := range soundSetups() {
		for _, n := range outOf(1, 8) {
			bad := s
			bad.Units = n
			wrong(t, bad, api.ErrRange)
		}
		for _, n := range outOf(1, 16) {
			bad := s
			bad.Ports = n
			wrong(t, bad, api.ErrRange)
		}
		for _, n := range outOf(0, 32) {
			bad := s
			bad.Room = n
			wrong(t, bad, api.ErrRange)
		}
	}
	wrong(t, api.Setup{}, api.ErrRange)
}

// P12.1: several numbers out of range at once.
func TestSeveralOutOfRange(t *testing.T) {
	for _, units := range []int{math.MinInt, 0, 1, 8, 9, math.MaxInt} {
		for _, ports := range []int{math.MinInt, 0, 1, 16, 17, math.MaxInt} {
			for _, room := range []int{math.MinInt, -1, 0, 32, 33, math.MaxInt} {
				s := api.Setup{Units: units, Ports: ports, Room: room}
				agrees(t, s, plainSound(s))
			}
		}
	}
}

// P12.1: the limits are those of package api.
func TestLimits(t *testing.T) {
	if api.MaxUnits != 8 || api.MaxPorts != 16 || api.MaxRules != 32 {
		t.Error("the tests of this package are made for other limits")
	}
}

// R2: ErrRange is named first, so it is returned even if a link is wrong as well.
func TestRangeBeforeForm(t *testing.T) {
	for _, links := range [][]api.Link{
		{{}},
		{link(0, 1, 0, 1)},
		{link(0, 1, 1, 1), link(0, 1, 1, 1)},
		{link(9, 1, 0, 1)},
		{link(0, 17, 0, 1)},
		{link(0, 1, -1, 1)},
		{link(math.MaxInt, math.MinInt, math.MinInt, math.MaxInt)},
	} {
		wrong(t, setup(2, 2, links...), api.ErrForm)
		wrong(t, api.Setup{Units: 0, Ports: 2, Links: links}, api.ErrRange)
		wrong(t, api.Setup{Units: 9, Ports: 2, Links: links}, api.ErrRange)
		wrong(t, api.Setup{Units: 2, Ports: 0, Links: links}, api.ErrRange)
		wrong(t, api.Setup{Units: 2, Ports: 17, Links: links}, api.ErrRange)
		wrong(t, api.Setup{Units: 2, Ports: 2, Room: -1, Links: links}, api.ErrRange)
		wrong(t, api.Setup{Units: 2, Ports: 2, Room: 33, Links: links}, api.ErrRange)
		wrong(t, api.Setup{Units: math.MaxInt, Ports: math.MaxInt, Room: 1, Links: links}, api.ErrRange)
	}
}

// badEnds is ends that are no ports if there are so many units and ports.
func badEnds(units, ports int) []api.End {
	l := []api.End{{}, end(-1, 0), end(units, ports+1), end(-1, -1), end(math.MinInt, math.MinInt), end(math.MaxInt, math.MaxInt)}
	for _, port := range []int{0, -1, -2, ports + 1, ports + 2, math.MinInt32, math.MaxInt32, math.MinInt, math.MaxInt} {
		for _, unit := range []int{0, units - 1} {
			l = append(l, end(unit, port))
		}
	}
	for _, unit := range []int{-1, -2, units, units + 1, math.MinInt32, math.MaxInt32, math.MinInt, math.MaxInt} {
		for _, port := range []int{1, ports} {
			l = append(l, end(unit, port))
		}
	}
	return l
}

// P12.1: an end that is no port, as A and as B, beside a port and beside another such end; the ports at the bounds are right.
func TestNoPort(t *testing.T) {
	for units := 1; units <= 8; units++ {
		for ports := 1; ports <= 16; ports += 5 {
			ends := allPorts(units, ports)
			first, last := ends[0], ends[len(ends)-1]
			if first != last {
				agrees(t, setup(units, ports, api.Link{A: first, B: last}), api.OK)
				agrees(t, setup(units, ports, api.Link{A: last, B: first}), api.OK)
			}
			for _, bad := range badEnds(units, ports) {
				for _, good := range []api.End{first, last} {
					wrong(t, setup(units, ports, api.Link{A: bad, B: good}), api.ErrForm)
					wrong(t, setup(units, ports, api.Link{A: good, B: bad}), api.ErrForm)
				}
				for _, worse := range badEnds(units, ports)[:4] {
					wrong(t, setup(units, ports, api.Link{A: bad, B: worse}), api.ErrForm)
				}
			}
		}
	}
}

// P12.1: a port is one of this setup, not of a larger one.
func TestPortOfLargerSetup(t *testing.T) {
	links := []api.Link{link(0, 1, 2, 3)}
	agrees(t, setup(3, 3, links...), api.OK)
	wrong(t, setup(2, 3, links...), api.ErrForm)
	wrong(t, setup(3, 2, links...), api.ErrForm)
	agrees(t, setup(8, 16, link(7, 16, 7, 1)), api.OK)
	wrong(t, setup(7, 16, link(7, 16, 7, 1)), api.ErrForm)
	wrong(t, setup(8, 15, link(7, 16, 7, 1)), api.ErrForm)
	// Units and ports are not exchanged for each other.
	agrees(t, setup(2, 4, link(1, 4, 0, 3)), api.OK)
	wrong(t, setup(4, 2, link(1, 4, 0, 3)), api.ErrForm)
	agrees(t, setup(4, 2, link(3, 1, 2, 2)), api.OK)
	wrong(t, setup(2, 4, link(3, 1, 2, 2)), api.ErrForm)
}

// P12.1: a link whose ends are equal; ends with only the unit or the port in common are right.
func TestEqualEnds(t *testing.T) {
	for _, e := range allPorts(8, 16) {
		wrong(t, setup(8, 16, api.Link{A: e, B: e}), api.ErrForm)
	}
	wrong(t, setup(1, 1, link(0, 1, 0, 1)), api.ErrForm)
	wrong(t, setup(3, 3, link(1, 2, 1, 2)), api.ErrForm)
	agrees(t, setup(3, 3, link(1, 2, 1, 1)), api.OK)
	agrees(t, setup(3, 3, link(1, 2, 2, 2)), api.OK)
	agrees(t, setup(3, 3, link(1, 2, 2, 1)), api.OK)
}

// P12.1: the same link twice, also turned round, and an end in two links, as A and as B.
func TestTwice(t *testing.T) {
	ends := []api.End{end(0, 2), end(1, 1), end(2, 3)}
	for _, order := range [][3]int{{0, 1, 2}, {0, 2, 1}, {1, 0, 2}, {1, 2, 0}, {2, 0, 1}, {2, 1, 0}} {
		a, b, c := ends[order[0]], ends[order[1]], ends[order[2]]
		first := api.Link{A: a, B: b}
		for _, second := range []api.Link{{A: a, B: b}, {A: b, B: a}, {A: a, B: c}, {A: c, B: a}, {A: b, B: c}, {A: c, B: b}, {A: a, B: a}, {A: b, B: b}, {A: c, B: c}} {
			wrong(t, setup(3, 3, first, second), api.ErrForm)
			wrong(t, setup(3, 3, second, first), api.ErrForm)
		}
	}
	agrees(t, setup(3, 3, link(0, 2, 1, 1), link(2, 3, 2, 2)), api.OK)
	agrees(t, setup(3, 3, link(0, 2, 1, 1), link(0, 1, 1, 2)), api.OK)
	wrong(t, setup(3, 3, link(0, 2, 1, 1), link(0, 2, 1, 2)), api.ErrForm)
	// Three links in a ring, in which each end occurs twice.
	wrong(t, setup(3, 1, link(0, 1, 1, 1), link(1, 1, 2, 1), link(2, 1, 0, 1)), api.ErrForm)
}

// P12.1: one wrong link among many right ones, at each place; without it, nothing is wrong.
func TestOneWrongLink(t *testing.T) {
	ends := allPorts(4, 6)
	links := inPairs(ends[:20])
	agrees(t, setup(4, 6, links...), api.OK)
	for at := range len(links) + 1 {
		agrees(t, setup(4, 6, with(links, at, api.Link{A: ends[20], B: ends[22]})...), api.OK)
		for _, bad := range badEnds(4, 6) {
			wrong(t, setup(4, 6, with(links, at, api.Link{A: bad, B: ends[21]})...), api.ErrForm)
			wrong(t, setup(4, 6, with(links, at, api.Link{A: ends[21], B: bad})...), api.ErrForm)
		}
		wrong(t, setup(4, 6, with(links, at, api.Link{A: ends[22], B: ends[22]})...), api.ErrForm)
		for _, l := range links {
			for _, twice := range []api.Link{l, turned(l), {A: l.A, B: ends[23]}, {A: ends[23], B: l.A}, {A: l.B, B: ends[23]}, {A: ends[23], B: l.B}} {
				wrong(t, setup(4, 6, with(links, at, twice)...), api.ErrForm)
			}
		}
	}
}

// P12.1, R1: more links than there are ports: some end occurs twice, or is no port.
func TestTooManyLinks(t *testing.T) {
	for units := 1; units <= 8; units++ {
		for _, ports := range []int{1, 2, 15, 16} {
			ends := allPorts(units, ports)
			var ring, same []api.Link
			for i := range ends {
				ring = append(ring, api.Link{A: ends[i], B: ends[(i+1)%len(ends)]})
				same = append(same, api.Link{A: ends[0], B: ends[len(ends)-1]})
			}
			for range 2 {
				wrong(t, setup(units, ports, ring...), api.ErrForm)
				wrong(t, setup(units, ports, same...), api.ErrForm)
				ring, same = append(ring, ring...), append(same, same...)
			}
			full := inPairs(ends)
			agrees(t, setup(units, ports, full...), api.OK)
			for _, e := range ends {
				s := setup(units, ports, with(full, len(full), api.Link{A: e, B: ends[0]})...)
				sound(t, s, api.ErrForm)
				alone(t, s, e)
				edges(t, s)
			}
		}
	}
	many := make([]api.Link, 1000000)
	wrong(t, setup(8, 16, many...), api.ErrForm)
	for i := range many {
		many[i] = link(i, 1, i, 2)
	}
	wrong(t, setup(8, 16, many...), api.ErrForm)
	wrong(t, setup(9, 16, many...), api.ErrRange)
}

// R1, R4: nil Links and empty ones are the same, with and without spare capacity.
func TestNoLinks(t *testing.T) {
	for _, links := range [][]api.Link{nil, {}, make([]api.Link, 0, 9), inPairs(allPorts(2, 2))[:0]} {
		s := api.Setup{Units: 2, Ports: 2, Links: links}
		agrees(t, s, api.OK)
		edges(t, s, end(0, 1), end(0, 2), end(1, 1), end(1, 2))
		wrong(t, api.Setup{Units: 0, Ports: 2, Links: links}, api.ErrRange)
	}
}

// R3: beside false stands the zero end, also if the other end of a wrong link could be told.
func TestNotSound(t *testing.T) {
	for _, s := range []api.Setup{
		{Units: 2, Ports: 2, Room: 33, Links: []api.Link{link(0, 1, 1, 1)}},
		{Units: 2, Ports: 17, Links: []api.Link{link(0, 1, 1, 1)}},
		setup(2, 2, link(0, 1, 1, 1), link(0, 2, 0, 2)),
		setup(2, 2, link(0, 1, 1, 1), link(0, 2, 2, 2)),
		setup(2, 2, link(0, 1, 1, 1), link(0, 2, 1, 3)),
		setup(2, 2, link(0, 1, 1, 1), link(0, 2, 1, 1)),
		setup(2, 2, link(0, 2, 2, 2), link(0, 1, 1, 1)),
	} {
		for range 2 {
			wrong(t, s, plainSound(s))
			alone(t, s, end(0, 1))
			alone(t, s, end(1, 1))
			alone(t, s, end(0, 2))
			if l := Edges(s); len(l) != 0 {
				t.Errorf("Edges(%s): %v", text(s), l)
			}
		}
	}
}

// R4: no call changes the links, or what stands behind them in their array.
func TestArgumentsUntouched(t *testing.T) {
	for _, s := range append(soundSetups(), setup(2, 2, link(0, 1, 0, 1)), setup(2, 2, link(1, 1, 0, 1), link(0, 1, 2, 9)), api.Setup{Units: 9, Links: []api.Link{{}}}) {
		array := append(slices.Clone(s.Links), link(1, 2, 3, 4), link(5, 6, 7, 8), link(9, 10, 11, 12))
		before := slices.Clone(array)
		s.Links = array[:len(s.Links)]
		for _, e := range append(around(s), Edges(s)...) {
			Sound(s)
			Other(s, e)
			_ = append(Edges(s), end(-5, -5))
		}
		if !slices.Equal(array, before) {
			t.Errorf("%s: the links are changed: %v, not %v", text(s), array, before)
		}
	}
}

// R4: the slices that Edges returns share no memory, neither if they are written into nor if they are appended to.
func TestResultMemory(t *testing.T) {
	for _, s := range soundSetups() {
		want := plainEdges(s)
		first, second := Edges(s), Edges(s)
		full := first[:cap(first)]
		for i := range full {
			full[i] = end(-6, -6)
		}
		_ = append(first, end(-7, -7), end(-8, -8), end(-9, -9))
		if !slices.Equal(second, want) {
			t.Errorf("%s: two results share memory", text(s))
		}
		_ = append(second[:0], end(-4, -4))
		_ = append(second, end(-5, -5))
		agrees(t, s, api.OK)
		third := Edges(s)
		_ = append(Edges(s), end(-3, -3))
		if !slices.Equal(third, want) {
			t.Errorf("%s: a result has changed by later calls", text(s))
		}
	}
}

// R4: links that are changed after a call do not change its result.
func TestNotRetained(t *testing.T) {
	links := []api.Link{link(0, 1, 1, 2), link(1, 1, 2, 1)}
	s := setup(3, 2, links...)
	l := Edges(s)
	x, ok := Other(s, end(0, 1))
	links[0], links[1] = link(0, 2, 2, 2), link(1, 1, 0, 1)
	if !slices.Equal(l, []api.End{end(0, 2), end(2, 2)}) || x != end(1, 2) || !ok {
		t.Errorf("Edges: %v, Other: %v and %v", l, x, ok)
	}
	s.Links = links
	edges(t, s, end(1, 2), end(2, 1))
	other(t, s, end(0, 1), end(1, 1))
	alone(t, s, end(2, 1))
}

// R5: what a call returns does not depend on earlier calls, of sound setups and of others.
func TestNothingKept(t *testing.T) {
	a := setup(2, 2, link(0, 1, 1, 1))
	b := setup(2, 2, link(0, 1, 1, 2))
	bad := setup(2, 2, link(0, 1, 1, 1), link(0, 1, 1, 2))
	far := api.Setup{Units: 9, Ports: 2, Links: a.Links}
	for range 3 {
		other(t, a, end(0, 1), end(1, 1))
		other(t, b, end(0, 1), end(1, 2))
		sound(t, bad, api.ErrForm)
		alone(t, bad, end(0, 1))
		edges(t, a, end(0, 2), end(1, 2))
		edges(t, bad)
		edges(t, b, end(0, 2), end(1, 1))
		sound(t, far, api.ErrRange)
		alone(t, far, end(0, 1))
		alone(t, a, end(1, 2))
		alone(t, b, end(1, 1))
		edges(t, setup(2, 2), end(0, 1), end(0, 2), end(1, 1), end(1, 2))
		sound(t, a, api.OK)
		sound(t, b, api.OK)
		alone(t, setup(2, 2), end(0, 1))
	}
}

// P12.1: all setups with at most two units and ports, and all lists of at most two links with ends in and next to them.
func TestAllSmallSetups(t *testing.T) {
	var links []api.Link
	for _, a := range around(setup(2, 2))[6:] {
		for _, b := range around(setup(2, 2))[6:] {
			links = append(links, api.Link{A: a, B: b})
		}
	}
	for units := range 3 {
		for ports := range 3 {
			for _, first := range links {
				s := setup(units, ports, first)
				agrees(t, s, plainSound(s))
				for _, second := range links {
					s := setup(units, ports, first, second)
					want := plainSound(s)
					sound(t, s, want)
					if want == api.OK {
						agrees(t, s, want)
					}
				}
			}
		}
	}
}

// someSetup is a setup at random, in which something is wrong now and then.
func someSetup(random *rand.Rand) api.Setup {
	s := api.Setup{Units: 1 + random.Intn(8), Ports: 1 + random.Intn(16), Room: random.Intn(33)}
	ends := allPorts(s.Units, s.Ports)
	random.Shuffle(len(ends), func(i, j int) { ends[i], ends[j] = ends[j], ends[i] })
	s.Links = inPairs(ends[:random.Intn(len(ends)+1)])
	if len(s.Links) == 0 {
		return s
	}
	l := &s.Links[random.Intn(len(s.Links))]
	switch random.Intn(8) {
	case 0:
		l.A = ends[random.Intn(len(ends))]
	case 1:
		l.B = ends[random.Intn(len(ends))]
	case 2:
		l.A.Port += random.Intn(3) - 1
	case 3:
		l.B.Unit += random.Intn(3) - 1
	case 4:
		*l = s.Links[random.Intn(len(s.Links))]
	case 5:
		s.Units, s.Ports, s.Room = s.Units+random.Intn(2), s.Ports+random.Intn(2), s.Room+random.Intn(2)
	}
	return s
}

// P12.1: many setups at random; twice the same calls have the same results (R5).
func TestManySetups(t *testing.T) {
	random := rand.New(rand.NewSource(12))
	count := map[api.Errno]int{}
	for range 1000 {
		s := someSetup(random)
		want := plainSound(s)
		count[want]++
		agrees(t, s, want)
		if !slices.Equal(Edges(s), Edges(s)) {
			t.Errorf("Edges(%s): another result", text(s))
		}
	}
	if count[api.OK] < 300 || count[api.ErrForm] < 200 || count[api.ErrRange] < 10 {
		t.Errorf("the setups are too much alike: %v", count)
	}
}
