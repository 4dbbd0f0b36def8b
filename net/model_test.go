package net

import (
	"bytes"
	"math"
	"math/rand"
	"slices"
	"testing"

	"podesta/api"
	"podesta/code"
	"podesta/cube"
	"podesta/head"
	"podesta/rule"
	"podesta/unit"
)

// model is a network as the chapter describes it, as directly as can be.
type model struct {
	setup api.Setup
	units []*unit.Unit
	down  [][][]byte
	back  [][]api.Msg
}

// newModel is what New says of a sound setup.
func newModel(s api.Setup) *model {
	s.Links = slices.Clone(s.Links)
	o := &model{setup: s, down: make([][][]byte, s.Units), back: make([][]api.Msg, s.Units)}
	for range s.Units {
		o.units = append(o.units, unit.New(s.Room))
	}
	return o
}

// has reports whether the unit exists.
func (o *model) has(unit int) bool {
	return unit >= 0 && unit < o.setup.Units
}

// other is the other end of the link with the end e.
func (o *model) other(e api.End) (api.End, bool) {
	for _, l := range o.setup.Links {
		if l.A == e {
			return l.B, true
		}
		if l.B == e {
			return l.A, true
		}
	}
	return api.End{}, false
}

// isEdge reports whether e is a port of a unit, without a link.
func (o *model) isEdge(e api.End) bool {
	_, linked := o.other(e)
	return o.has(e.Unit) && e.Port >= 1 && e.Port <= o.setup.Ports && !linked
}

// answer puts the answers of the unit into its pipe back.
func (o *model) answer(unit int, l []api.Msg) {
	for _, m := range l {
		room := 4096
		if m.Kind == api.MsgPacket || m.Kind == api.MsgRemoved {
			room = 1024
		}
		if len(o.back[unit]) < room {
			o.back[unit] = append(o.back[unit], m)
		}
	}
}

func (o *model) send(unit int, b []byte) api.Errno {
	if !o.has(unit) {
		return api.ErrArg
	}
	if len(o.down[unit]) == 4096 {
		return api.ErrFull
	}
	o.down[unit] = append(o.down[unit], bytes.Clone(b))
	return api.OK
}

func (o *model) takeDown(unit int) api.Errno {
	if !o.has(unit) {
		return api.ErrArg
	}
	if len(o.down[unit]) == 0 {
		return api.ErrNone
	}
	b := o.down[unit][0]
	o.down[unit] = o.down[unit][1:]
	if m, e := code.Decode(b); e != api.OK {
		o.answer(unit, []api.Msg{{Kind: api.MsgError, E: e}})
	} else {
		o.answer(unit, o.units[unit].Take(m))
	}
	return api.OK
}

func (o *model) takeBack(unit int) (api.Msg, api.Errno) {
	if !o.has(unit) {
		return api.Msg{}, api.ErrArg
	}
	if len(o.back[unit]) == 0 {
		return api.Msg{}, api.ErrNone
	}
	m := o.back[unit][0]
	o.back[unit] = o.back[unit][1:]
	return m, api.OK
}

func (o *model) packet(at api.End, h api.Head) (hops []api.Hop, out []api.Send, e api.Errno) {
	if !o.isEdge(at) || !head.Sound(h) {
		return nil, nil, api.ErrArg
	}
	ends, heads := []api.End{at}, []api.Head{h}
	for i := 0; i < len(ends) && i < 16; i++ {
		sends, back, hop := o.units[ends[i].Unit].Packet(ends[i].Port, heads[i])
		o.answer(ends[i].Unit, back)
		hop.In = ends[i]
		hops = append(hops, hop)
		for _, s := range sends {
			from := end(ends[i].Unit, s.Port)
			if next, ok := o.other(from); ok {
				ends, heads = append(ends, next), append(heads, s.Head)
			} else if o.isEdge(from) {
				out = append(out, api.Send{Port: from.Unit*256 + from.Port, Head: s.Head})
			}
		}
	}
	return hops, out, api.OK
}

func (o *model) tick(moments int) api.Errno {
	if moments < 0 || moments > 1<<20 {
		return api.ErrArg
	}
	for i, u := range o.units {
		o.answer(i, u.Tick(moments))
	}
	return api.OK
}

func (o *model) fail(unit int) api.Errno {
	if !o.has(unit) {
		return api.ErrArg
	}
	o.units[unit].Fail()
	return api.OK
}

// step is a call of a network; times is how often it is called.
type step struct {
	call  string // "send", "down", "back", "packet", "tick" or "fail"
	times int
	unit  int
	bytes []byte
	at    api.End
	head  api.Head
	n     int
}

// result is what a call returns.
type result struct {
	msg  api.Msg
	hops []api.Hop
	out  []api.Send
	e    api.Errno
}

// on does the step once.
func (s step) on(n *Net) (r result) {
	switch s.call {
	case "send":
		r.e = n.Send(s.unit, s.bytes)
	case "down":
		r.e = n.Down(s.unit)
	case "back":
		r.msg, r.e = n.Back(s.unit)
	case "packet":
		r.hops, r.out, r.e = n.Packet(s.at, s.head)
	case "tick":
		r.e = n.Tick(s.n)
	case "fail":
		r.e = n.Fail(s.unit)
	}
	return r
}

// onModel does the step once.
func (s step) onModel(o *model) (r result) {
	switch s.call {
	case "send":
		r.e = o.send(s.unit, s.bytes)
	case "down":
		r.e = o.takeDown(s.unit)
	case "back":
		r.msg, r.e = o.takeBack(s.unit)
	case "packet":
		r.hops, r.out, r.e = o.packet(s.at, s.head)
	case "tick":
		r.e = o.tick(s.n)
	case "fail":
		r.e = o.fail(s.unit)
	}
	return r
}

// equal reports whether two results are equal.
func (r result) equal(other result) bool {
	return code.Same(r.msg, other.msg) && slices.Equal(r.hops, other.hops) && slices.Equal(r.out, other.out) && r.e == other.e
}

// one is an element of l.
func one[T any](rnd *rand.Rand, l ...T) T {
	return l[rnd.Intn(len(l))]
}

// anySetup is a sound setup, with links between ports at random.
func anySetup(rnd *rand.Rand) api.Setup {
	s := api.Setup{Units: one(rnd, 1, 2, 2, 3, 4, 8), Ports: one(rnd, 1, 2, 3, 3, 4, 16), Room: one(rnd, 0, 2, 4, 6, 32)}
	var ends []api.End
	for unit := range s.Units {
		for port := range s.Ports {
			ends = append(ends, end(unit, port+1))
		}
	}
	rnd.Shuffle(len(ends), func(i, j int) { ends[i], ends[j] = ends[j], ends[i] })
	for range rnd.Intn(len(ends)/2 + 1) {
		s.Links = append(s.Links, api.Link{A: ends[0], B: ends[1]})
		ends = ends[2:]
	}
	return s
}

// anyMod is a change.
func anyMod(rnd *rand.Rand) api.Mod {
	m := api.Mod{Kind: one(rnd, 1, 1, 1, 1, 1, 2, 3, 4, 5), Match: one(rnd, cube.All(), cube.All(), vlan(1), vlan(2), vlan(3), in(1), in(2)), Owner: one(rnd, 1, 1, 1, 2)}
	if m.Kind != api.Modify && m.Kind != api.Delete {
		m.Prio = one(rnd, 1, 2, 3)
	}
	if m.Kind != api.Delete && m.Kind != api.DeleteIt {
		acts := []api.Act{tell(), to(1), to(2), to(3), out(1)[0], out(1)[0], out(2)[0], out(2)[0], out(3)[0], out(4)[0], out(16)[0]}
		for range rnd.Intn(7) {
			m.Acts = append(m.Acts, one(rnd, acts...))
		}
	}
	if m.Kind == api.Add {
		m.Idle, m.Hard, m.Check = one(rnd, 0, 0, 3), one(rnd, 0, 0, 9), rnd.Intn(9) == 0
	}
	return m
}

// anyBytes is the bytes of a message, seldom garbage.
func anyBytes(rnd *rand.Rand) []byte {
	id := one(rnd, 0, 1, 2, 2)
	switch n := rnd.Intn(20); {
	case n < 9:
		return bytesOf(change(id, anyMod(rnd)))
	case n < 14:
		return bytesOf(just(one(rnd, api.MsgCommit, api.MsgCommit, api.MsgCommit, api.MsgUndo), id))
	case n < 17:
		return bytesOf(just(one(rnd, api.MsgBarrier, api.MsgAsk), rnd.Intn(1<<20)))
	case n < 18:
		return bytesOf(one(rnd, everyKind()...))
	}
	b := bytesOf(one(rnd, everyKind()...))
	return one(rnd, nil, []byte{}, []byte("?"), b[:rnd.Intn(len(b))], append(b, 1))
}

// anyUnit is the number of a unit, seldom of one that does not exist.
func anyUnit(rnd *rand.Rand, units int) int {
	if rnd.Intn(30) == 0 {
		return one(rnd, -1, units, units+1, math.MinInt, math.MaxInt)
	}
	return rnd.Intn(units)
}

// anyStep is a step.
func anyStep(rnd *rand.Rand, s api.Setup) step {
	x := step{times: 1, unit: anyUnit(rnd, s.Units)}
	switch n := rnd.Intn(100); {
	case n < 30:
		x.call, x.bytes = "send", anyBytes(rnd)
	case n < 58:
		x.call = "down"
	case n < 66:
		x.call = "back"
	case n < 92:
		x.call, x.at = "packet", end(x.unit, one(rnd, 1, 1, 1, 2, 2, 3, 4, 16, 0, s.Ports, s.Ports+1))
		x.head = one(rnd, on(0), on(1), on(2), on(3), came(2, on(1)), came(65535, on(2)), on(1<<12), came(65536, on(1)))
	case n < 98:
		x.call, x.n = "tick", one(rnd, 1, 1, 2, 3, 0, -1, api.MaxTime+1)
	default:
		x.call = "fail"
	}
	return x
}

// agrees complains unless the step has the same result on both, and they show the same.
func agrees(t *testing.T, i int, s step, n *Net, o *model) result {
	t.Helper()
	got, want := s.on(n), s.onModel(o)
	if !got.equal(want) {
		t.Fatalf("step %d, %+v: %+v, not %+v", i, s, got, want)
	}
	return got
}

// showsSame complains unless both have the same tables and as many messages in their pipes.
func showsSame(t *testing.T, i int, n *Net, o *model) {
	t.Helper()
	for at, u := range o.units {
		if base, view := n.Base(at), n.View(at); !rule.Same(base, u.Base()) || !rule.Same(view, u.View()) {
			t.Fatalf("step %d, unit %d: %+v and %+v, not %+v and %+v", i, at, base, view, u.Base(), u.View())
		}
		if down, back := n.Waiting(at); down != len(o.down[at]) || back != len(o.back[at]) {
			t.Fatalf("step %d, unit %d: %d and %d, not %d and %d", i, at, down, back, len(o.down[at]), len(o.back[at]))
		}
	}
}

// runOut complains unless all that waits in the pipes comes out the same.
func runOut(t *testing.T, n *Net, o *model) {
	t.Helper()
	for unit := range o.units {
		for agrees(t, unit, step{call: "back", unit: unit}, n, o).e == api.OK {
		}
		for agrees(t, unit, step{call: "down", unit: unit}, n, o).e == api.OK {
			agrees(t, unit, step{call: "back", unit: unit}, n, o)
		}
	}
	showsSame(t, -1, n, o)
}

// P14.1, P14.2: long mixed sequences of calls on all sorts of networks: each result, and what each unit shows after each call, are as the chapter says.
func TestAgainstModel(t *testing.T) {
	rnd := rand.New(rand.NewSource(14))
	kinds, hops, left := map[int]int{}, map[int]int{}, 0
	for range 250 {
		s := anySetup(rnd)
		n, o := network(t, s), newModel(s)
		for i := range 200 {
			r := agrees(t, i, anyStep(rnd, s), n, o)
			showsSame(t, i, n, o)
			kinds[r.msg.Kind]++
			hops[len(r.hops)]++
			left += len(r.out)
		}
		runOut(t, n, o)
	}
	for kind := api.MsgError; kind <= api.MsgStats; kind++ {
		if kinds[kind] < 20 {
			t.Errorf("the sequences have answer %d only %d times", kind, kinds[kind])
		}
	}
	for _, count := range []int{1, 2, 3, 16} {
		if hops[count] < 20 {
			t.Errorf("the sequences have packets with %d hops only %d times", count, hops[count])
		}
	}
	if left < 1000 {
		t.Errorf("only %d headers leave", left)
	}
}

// anyBurst is a step that is done many times, so that pipes become full and empty.
func anyBurst(rnd *rand.Rand, s api.Setup) step {
	x := anyStep(rnd, s)
	if x.call != "tick" {
		x.times = one(rnd, 1, 1, 2, 30, 1024, 1500)
	}
	if x.call == "send" && x.times > 2 {
		x.bytes = bytesOf(just(one(rnd, api.MsgBarrier, api.MsgBarrier, api.MsgAsk), rnd.Intn(1<<20)))
	}
	return x
}

// P14.1, P14.2: the same with pipes that become crowded, full and empty again.
func TestCrowdedAgainstModel(t *testing.T) {
	rnd := rand.New(rand.NewSource(15))
	crowded, fullDown, fullBack := 0, 0, 0
	for range 12 {
		s := anySetup(rnd)
		s.Units, s.Links = 1, nil
		n, o := network(t, s), newModel(s)
		for i := range 150 {
			x := anyBurst(rnd, s)
			for range x.times {
				agrees(t, i, x, n, o)
			}
			showsSame(t, i, n, o)
			down, back := n.Waiting(0)
			if back >= 1024 && back < 4096 {
				crowded++
			}
			if down == 4096 {
				fullDown++
			}
			if back == 4096 {
				fullBack++
			}
		}
		runOut(t, n, o)
	}
	if crowded < 20 || fullDown < 20 || fullBack < 20 {
		t.Errorf("crowded %d times, full %d and %d times", crowded, fullDown, fullBack)
	}
}

// P14.1, P14.2: two networks are apart from each other, and the same calls have the same results.
func TestNetworksApart(t *testing.T) {
	rnd := rand.New(rand.NewSource(16))
	for range 40 {
		s := anySetup(rnd)
		var steps [2][]step
		var alone [2][]result
		for i := range 2 {
			n := network(t, s)
			for range 100 {
				x := anyStep(rnd, s)
				steps[i] = append(steps[i], x)
				alone[i] = append(alone[i], x.on(n))
			}
		}
		both := [2]*Net{network(t, s), network(t, s)}
		for at := range 100 {
			for i, n := range both {
				if got := steps[i][at].on(n); !got.equal(alone[i][at]) {
					t.Fatalf("step %d of network %d: %+v, not %+v", at, i, got, alone[i][at])
				}
			}
		}
	}
}

// P14.1, P14.2: to look at a network changes nothing.
func TestLookingChangesNothing(t *testing.T) {
	rnd := rand.New(rand.NewSource(17))
	for range 40 {
		s := anySetup(rnd)
		quiet, watched := network(t, s), network(t, s)
		for i := range 100 {
			for range rnd.Intn(3) {
				unit := anyUnit(rnd, s.Units)
				watched.Base(unit)
				watched.View(unit)
				watched.Waiting(unit)
			}
			x := anyStep(rnd, s)
			if a, b := x.on(quiet), x.on(watched); !a.equal(b) {
				t.Fatalf("step %d, %+v: %+v, not %+v", i, x, b, a)
			}
		}
	}
}

// R6: calls that return an error leave the network as one to which they did not happen.
func TestErrorsChangeNothing(t *testing.T) {
	rnd := rand.New(rand.NewSource(18))
	errors := map[string]int{}
	for range 60 {
		s := anySetup(rnd)
		n, o := network(t, s), newModel(s)
		for i := range 150 {
			x := anyStep(rnd, s)
			if r := x.on(n); r.e != api.OK {
				errors[x.call]++
				if !r.equal(result{e: r.e}) {
					t.Fatalf("step %d, %+v: %+v", i, x, r)
				}
			} else {
				x.onModel(o)
			}
			showsSame(t, i, n, o)
		}
		runOut(t, n, o)
	}
	for _, call := range []string{"send", "down", "back", "packet", "tick", "fail"} {
		if errors[call] < 5 {
			t.Errorf("%s has an error only %d times", call, errors[call])
		}
	}
}

// spoilActs overwrites the actions, those in the spare capacity too.
func spoilActs(l []api.Act) {
	for i := range l[:cap(l)] {
		l[:cap(l)][i] = api.Act{Kind: 99, Port: 99, Field: 99, Value: 99}
	}
}

// spoilRules overwrites the rules and their actions, the spare capacity too.
func spoilRules(l []api.Rule) {
	l = l[:cap(l)]
	for i := range l {
		spoilActs(l[i].Acts)
		l[i] = api.Rule{Prio: 99, Owner: 99, Hits: 99}
	}
}

// spoil overwrites a result, the spare capacity of its lists too.
func (r result) spoil() {
	for i := range r.hops[:cap(r.hops)] {
		r.hops[:cap(r.hops)][i] = api.Hop{Prio: 99}
	}
	for i := range r.out[:cap(r.out)] {
		r.out[:cap(r.out)][i] = api.Send{Port: 99}
	}
	spoilRules(r.msg.Rules)
	spoilActs(r.msg.Mod.Acts)
}

// R4: the setup, bytes that were sent, and each result may be written into afterwards: the network is as it was.
func TestMemory(t *testing.T) {
	rnd := rand.New(rand.NewSource(19))
	for range 150 {
		s := anySetup(rnd)
		o := newModel(s)
		links := append(slices.Clone(s.Links), link(99, 98, 97, 96))
		s.Links = links[:len(s.Links)]
		before := slices.Clone(links)
		n := network(t, s)
		if !slices.Equal(links, before) {
			t.Fatalf("links %v, not %v", links, before)
		}
		clear(links)
		for i := range 120 {
			x := anyStep(rnd, o.setup)
			want := x.onModel(o)
			roomy := append(bytes.Clone(x.bytes), 9, 9, 9)
			asBefore := bytes.Clone(roomy)
			x.bytes = roomy[:len(x.bytes)]
			got := x.on(n)
			if !got.equal(want) {
				t.Fatalf("step %d, %+v: %+v, not %+v", i, x, got, want)
			}
			if !bytes.Equal(roomy, asBefore) {
				t.Fatalf("step %d: bytes %v, not %v", i, roomy, asBefore)
			}
			clear(roomy)
			got.spoil()
			for unit := range o.setup.Units {
				spoilRules(n.Base(unit))
				spoilRules(n.View(unit))
			}
			showsSame(t, i, n, o)
		}
		if slices.ContainsFunc(links, func(l api.Link) bool { return l != api.Link{} }) {
			t.Fatalf("links %v", links)
		}
		runOut(t, n, o)
	}
}

// R4: results share no memory with each other.
func TestResultsApart(t *testing.T) {
	n := network(t, line(2))
	holds(t, n, 0, lasting(add(vlan(1), 1, out(2)...), 0, 5), lasting(add(vlan(2), 2, out(2, 1)...), 0, 5))
	for range 2 {
		takes(t, n, 0, just(api.MsgAsk, 7))
	}
	base := n.Base(0)
	first, _ := n.Back(0)
	second, _ := n.Back(0)
	for _, x := range [][2][]api.Rule{{first.Rules, second.Rules}, {n.Base(0), n.Base(0)}, {n.View(0), n.View(0)}, {n.Base(0), n.View(0)}, {n.View(0), n.Base(0)}} {
		spoilRules(x[0])
		if !rule.Same(x[1], base) {
			t.Errorf("%+v, not %+v", x[1], base)
		}
	}
	var results [2]result
	for i := range results {
		results[i].hops, results[i].out, results[i].e = n.Packet(end(0, 1), on(2))
	}
	results[0].spoil()
	if two := add(vlan(2), 2); !results[1].equal(result{hops: []api.Hop{met(end(0, 1), on(2), two), missed(end(1, 1), on(2))}, out: []api.Send{leaves(0, 1, 1, on(2))}}) {
		t.Errorf("%+v", results[1])
	}
	n.Tick(5)
	two, _ := n.Back(0)
	one, _ := n.Back(0)
	want := rule.Copy(one.Rules)
	spoilRules(two.Rules)
	if !rule.Same(one.Rules, want) {
		t.Errorf("%+v, not %+v", one.Rules, want)
	}
}
