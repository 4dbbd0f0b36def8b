package cube

import (
	"math"
	"math/rand"
	"slices"
	"testing"

	"podesta/api"
	"podesta/head"
)

// full is the header with the largest value of each field.
func full() api.Head {
	var h api.Head
	for i := range h {
		h[i] = 1<<head.Size(i) - 1
	}
	return h
}

// at is the header with one value that is perhaps not 0.
func at(field int, v uint64) api.Head {
	var h api.Head
	h[field] = v
	return h
}

// with is a cube that fixes the highest bits of one field; the arguments must be right.
func with(t *testing.T, c api.Cube, field int, v uint64, bits int) api.Cube {
	t.Helper()
	c, e := With(c, field, v, bits)
	if e != api.OK {
		t.Fatalf("With(%d, %x, %d): %d", field, v, bits, e)
	}
	return c
}

// unsound is cubes that are not sound, each for one reason.
func unsound() []api.Cube {
	out := []api.Cube{
		{Value: api.Head{1}},
		{Value: api.Head{api.DstPort: 3}, Care: api.Head{api.DstPort: 1}},
		{Value: api.Head{api.Src: 1}, Care: api.Head{api.Dst: 1}},
		{Value: full()},
	}
	for i := range api.Fields {
		for _, v := range []uint64{1 << head.Size(i), 1 << 63, math.MaxUint64} {
			var care, both api.Cube
			care.Care[i] = v
			both.Care[i], both.Value[i] = v, v
			out = append(out, care, both)
		}
	}
	return out
}

// unsoundHeads is headers that are not sound, each in one field.
func unsoundHeads() []api.Head {
	var out []api.Head
	for i := range api.Fields {
		for _, v := range []uint64{1 << head.Size(i), 1 << 63, math.MaxUint64} {
			h := full()
			h[i] = v
			out = append(out, h, at(i, v))
		}
	}
	return out
}

// The small world: in two fields the two lowest and the two highest bits may be fixed, so that every set of headers can be written out.
const (
	smallBits  = 8
	smallHeads = 1 << smallBits
)

// smallPlaces is where the bits of the small world are, from the highest one on.
var smallPlaces = [smallBits]struct{ field, bit int }{
	{api.EthSrc, 47}, {api.EthSrc, 46}, {api.EthSrc, 1}, {api.EthSrc, 0},
	{api.DstPort, 11}, {api.DstPort, 10}, {api.DstPort, 1}, {api.DstPort, 0},
}

func smallHead(n int) api.Head {
	var h api.Head
	for i, p := range smallPlaces {
		if n>>(smallBits-1-i)&1 != 0 {
			h[p.field] |= 1 << p.bit
		}
	}
	return h
}

func smallCube(r *rand.Rand) api.Cube {
	care := r.Intn(smallHeads)
	if r.Intn(2) == 0 {
		care &= r.Intn(smallHeads)
	}
	return api.Cube{Care: smallHead(care), Value: smallHead(care & r.Intn(smallHeads))}
}

// contents is which headers of the small world are in the cube, bit by bit and without the package's help.
func contents(c api.Cube) [smallHeads]bool {
	var out [smallHeads]bool
	for n := range out {
		h := smallHead(n)
		out[n] = true
		for i := range h {
			if (h[i]^c.Value[i])&c.Care[i] != 0 {
				out[n] = false
			}
		}
	}
	return out
}

// P2.1: Sound.
func TestSound(t *testing.T) {
	sound := []api.Cube{
		{},
		{Care: full()},
		{Care: full(), Value: full()},
		{Care: api.Head{api.Vlan: 0x801}, Value: api.Head{api.Vlan: 0x800}},
		{Care: api.Head{api.Vlan: 0x801}, Value: api.Head{api.Vlan: 1}},
	}
	for _, c := range sound {
		if !Sound(c) {
			t.Errorf("%v is not sound", c)
		}
	}
	for _, c := range unsound() {
		if Sound(c) {
			t.Errorf("%v is sound", c)
		}
	}
	for i := range api.Fields {
		c := api.Cube{Care: full()}
		c.Care[i] &^= 1
		c.Value[i] = 1
		if Sound(c) {
			t.Errorf("field %d: a value outside of what is cared for is sound", i)
		}
	}
}

// P2.1: All.
func TestAll(t *testing.T) {
	if !Sound(All()) || All() != (api.Cube{}) {
		t.Errorf("%v", All())
	}
	for _, h := range []api.Head{{}, full(), {api.Src: 5, api.Tos: 9}} {
		if !Has(All(), h) {
			t.Errorf("%v is missing", h)
		}
	}
}

// P2.1: Exact.
func TestExact(t *testing.T) {
	for _, h := range []api.Head{{}, full(), {api.InPort: 3, api.EthDst: 1 << 47, api.DstPort: 80}} {
		c, ok := Exact(h)
		if !ok || c.Value != h || c.Care != full() || !Sound(c) || !Has(c, h) {
			t.Errorf("Exact(%v) = %v %v", h, c, ok)
		}
		for i := range h {
			for bit := range head.Size(i) {
				other := h
				other[i] ^= 1 << bit
				if Has(c, other) {
					t.Errorf("Exact(%v) has %v", h, other)
				}
			}
		}
	}
	for _, h := range unsoundHeads() {
		if c, ok := Exact(h); ok || c != (api.Cube{}) {
			t.Errorf("Exact(%v) = %v %v", h, c, ok)
		}
	}
}

// P2.1: With, for each field and each number of bits.
func TestWith(t *testing.T) {
	everything, _ := Exact(full())
	for i := range api.Fields {
		size := head.Size(i)
		for _, v := range []uint64{0, 1, 1 << (size - 1), 1<<size - 1, 0x5555555555555555 >> (64 - size)} {
			for n := 0; n <= size; n++ {
				mask := uint64(1<<n-1) << (size - n)
				for _, before := range []api.Cube{{}, everything, {Care: full()}} {
					want := before
					want.Care[i], want.Value[i] = mask, v&mask
					if got, e := With(before, i, v, n); e != api.OK || got != want || !Sound(got) {
						t.Errorf("With(%v, %d, %x, %d) = %v %d", before, i, v, n, got, e)
					}
				}
			}
		}
	}
}

type withCase struct {
	c     api.Cube
	field int
	v     uint64
	bits  int
	want  api.Errno
}

// P2.1: the errors of With, and which of them is first.
func TestWithErrors(t *testing.T) {
	bad := api.Cube{Value: api.Head{1}}
	cases := []withCase{
		{bad, api.Src, 0, 0, api.ErrForm},
		{bad, -1, 0, 0, api.ErrForm},
		{bad, api.Pcp, 16, 0, api.ErrForm},
		{bad, api.Pcp, 0, 5, api.ErrForm},
		{All(), -1, 0, 0, api.ErrArg},
		{All(), api.Fields, 0, 0, api.ErrArg},
		{All(), math.MaxInt, 0, 0, api.ErrArg},
		{All(), math.MinInt, math.MaxUint64, math.MinInt, api.ErrArg},
		{All(), api.Fields, 0, 99, api.ErrArg},
	}
	for i := range api.Fields {
		size := head.Size(i)
		for _, v := range []uint64{1 << size, 1 << 63, math.MaxUint64} {
			for _, n := range []int{0, size, -1} {
				cases = append(cases, withCase{All(), i, v, n, api.ErrRange})
			}
		}
		for _, n := range []int{-1, size + 1, 64, 65, math.MinInt, math.MaxInt} {
			cases = append(cases, withCase{All(), i, 1, n, api.ErrRange})
		}
	}
	for _, c := range unsound() {
		if got, e := With(c, api.Tos, 1, 8); e != api.ErrForm || got != (api.Cube{}) {
			t.Errorf("With(%v) = %v %d, want ErrForm", c, got, e)
		}
	}
	for _, c := range cases {
		if got, e := With(c.c, c.field, c.v, c.bits); e != c.want || got != (api.Cube{}) {
			t.Errorf("With(%v, %d, %x, %d) = %v %d, want %d", c.c, c.field, c.v, c.bits, got, e, c.want)
		}
	}
}

// P2.1: Has.
func TestHas(t *testing.T) {
	c := with(t, with(t, All(), api.Src, 0x0a000000, 8), api.Vlan, 5, 12)
	cases := []struct {
		h    api.Head
		want bool
	}{
		{api.Head{api.Src: 0x0a000000, api.Vlan: 5}, true},
		{api.Head{api.Src: 0x0affffff, api.Vlan: 5, api.Dst: 7}, true},
		{api.Head{api.Src: 0x0b000000, api.Vlan: 5}, false},
		{api.Head{api.Src: 0x8a000000, api.Vlan: 5}, false},
		{api.Head{api.Src: 0x0a000000, api.Vlan: 4}, false},
		{api.Head{api.Src: 0x0a000000}, false},
		{api.Head{api.Dst: 0x0a000000, api.Vlan: 5}, false},
		{api.Head{api.Src: 0x0a000000, api.Vlan: 5, api.Pcp: 16}, false},
		{api.Head{api.Src: 0x10a000000, api.Vlan: 5}, false},
	}
	for _, k := range cases {
		if Has(c, k.h) != k.want {
			t.Errorf("Has(%v) is not %v", k.h, k.want)
		}
	}
	for _, h := range unsoundHeads() {
		if Has(All(), h) {
			t.Errorf("All has %v, which is not sound", h)
		}
	}
	for _, c := range unsound() {
		for _, h := range []api.Head{{}, full(), c.Value} {
			if Has(c, h) {
				t.Errorf("%v, which is not sound, has %v", c, h)
			}
		}
	}
}

func TestHasInSmallWorld(t *testing.T) {
	r := rand.New(rand.NewSource(1))
	for range 200 {
		c := smallCube(r)
		for n, want := range contents(c) {
			if Has(c, smallHead(n)) != want {
				t.Fatalf("Has(%v, %v) is not %v", c, smallHead(n), want)
			}
		}
	}
}

// P2.2: cubes that are not sound, on either side.
func TestUnsound(t *testing.T) {
	everything, _ := Exact(full())
	sound := []api.Cube{All(), everything, with(t, All(), api.Src, 0, 1)}
	for _, bad := range unsound() {
		for _, good := range append(sound, bad) {
			for _, p := range [][2]api.Cube{{bad, good}, {good, bad}} {
				if m, ok := Meet(p[0], p[1]); ok || m != (api.Cube{}) {
					t.Errorf("Meet(%v) = %v %v", p, m, ok)
				}
				if Within(p[0], p[1]) {
					t.Errorf("Within(%v)", p)
				}
				if l := Less(p[0], p[1]); len(l) != 0 {
					t.Errorf("Less(%v) = %v", p, l)
				}
			}
		}
	}
}

// P2.2: Meet and Within, against the headers written out.
func TestMeetAndWithin(t *testing.T) {
	r := rand.New(rand.NewSource(2))
	met, within := 0, 0
	for range 5000 {
		a, b := smallCube(r), smallCube(r)
		inA, inB := contents(a), contents(b)
		var both [smallHeads]bool
		some, all := false, true
		for n := range both {
			both[n] = inA[n] && inB[n]
			some = some || both[n]
			all = all && (!inA[n] || inB[n])
		}
		m, ok := Meet(a, b)
		if ok != some || !ok && m != (api.Cube{}) || ok && (!Sound(m) || contents(m) != both) {
			t.Fatalf("Meet(%v, %v) = %v %v", a, b, m, ok)
		}
		if Within(a, b) != all {
			t.Fatalf("Within(%v, %v) is not %v", a, b, all)
		}
		if some {
			met++
		}
		if all {
			within++
		}
	}
	if met < 100 || within < 100 {
		t.Errorf("too few cases: %d meet, %d within", met, within)
	}
}

// P2.2: each field counts, and so does each of its bits.
func TestMeetOfEachBit(t *testing.T) {
	for i := range api.Fields {
		for bit := range head.Size(i) {
			one := api.Cube{Care: at(i, 1<<bit), Value: at(i, 1<<bit)}
			zero := api.Cube{Care: one.Care}
			if m, ok := Meet(one, zero); ok || m != (api.Cube{}) {
				t.Errorf("field %d, bit %d: %v", i, bit, m)
			}
			if m, ok := Meet(All(), one); !ok || m != one {
				t.Errorf("field %d, bit %d: %v %v", i, bit, m, ok)
			}
			if !Within(one, All()) || Within(All(), one) || Within(one, zero) || !Within(one, one) {
				t.Errorf("field %d, bit %d: Within", i, bit)
			}
		}
	}
}

// P2.2: Less, with the cubes and their order written out.
func TestLess(t *testing.T) {
	a := with(t, All(), api.Src, 0x0a000000, 8)
	b := with(t, All(), api.Src, 0x0a010000, 16)
	b = with(t, b, api.EthSrc, 0xc00000000000, 2)
	b = with(t, b, api.DstPort, 0x800, 1)
	c := with(t, a, api.EthSrc, 0xc00000000000, 2)
	want := []api.Cube{
		with(t, a, api.EthSrc, 0, 1),
		with(t, a, api.EthSrc, 0x800000000000, 2),
		with(t, c, api.Src, 0x0a800000, 9),
		with(t, c, api.Src, 0x0a400000, 10),
		with(t, c, api.Src, 0x0a200000, 11),
		with(t, c, api.Src, 0x0a100000, 12),
		with(t, c, api.Src, 0x0a080000, 13),
		with(t, c, api.Src, 0x0a040000, 14),
		with(t, c, api.Src, 0x0a020000, 15),
		with(t, c, api.Src, 0x0a000000, 16),
		with(t, with(t, c, api.Src, 0x0a010000, 16), api.DstPort, 0, 1),
	}
	if got := Less(a, b); !slices.Equal(got, want) {
		t.Errorf("Less = %v, want %v", got, want)
	}
}

// P2.2: nothing is left of a cube within the other one, all of it where they have nothing in common.
func TestLessAtTheEnds(t *testing.T) {
	a := with(t, All(), api.Src, 0x0a000000, 8)
	b := with(t, a, api.Vlan, 5, 12)
	other := with(t, with(t, All(), api.Src, 0x0b000000, 8), api.Tos, 1, 8)
	everything, _ := Exact(full())
	for _, p := range [][2]api.Cube{{b, a}, {a, a}, {a, All()}, {All(), All()}, {everything, All()}} {
		if l := Less(p[0], p[1]); len(l) != 0 {
			t.Errorf("Less(%v) = %v, want nothing", p, l)
		}
	}
	if l := Less(a, other); !slices.Equal(l, []api.Cube{a}) {
		t.Errorf("Less of cubes apart = %v", l)
	}
	if l := Less(All(), everything); len(l) != api.HeadBits {
		t.Errorf("All less one header: %d cubes", len(l))
	}
	// The chapter's example.
	for i := range api.Fields {
		for bit := range head.Size(i) {
			one := api.Cube{Care: at(i, 1<<bit), Value: at(i, 1<<bit)}
			zero := api.Cube{Care: one.Care}
			if l := Less(All(), one); !slices.Equal(l, []api.Cube{zero}) {
				t.Errorf("All less %v = %v", one, l)
			}
			if l := Less(All(), zero); !slices.Equal(l, []api.Cube{one}) {
				t.Errorf("All less %v = %v", zero, l)
			}
		}
	}
}

// P2.2: Less, against the headers written out: each header that is left is in one cube.
func TestLessInSmallWorld(t *testing.T) {
	r := rand.New(rand.NewSource(3))
	for range 5000 {
		a, b := smallCube(r), smallCube(r)
		inA, inB := contents(a), contents(b)
		var times [smallHeads]int
		for _, c := range Less(a, b) {
			if !Sound(c) {
				t.Fatalf("Less(%v, %v) has %v", a, b, c)
			}
			for n, in := range contents(c) {
				if in {
					times[n]++
				}
			}
		}
		for n := range times {
			want := 0
			if inA[n] && !inB[n] {
				want = 1
			}
			if times[n] != want {
				t.Fatalf("Less(%v, %v): %v is in %d cubes, want %d", a, b, smallHead(n), times[n], want)
			}
		}
	}
}

// P2.2: Compare.
func TestCompare(t *testing.T) {
	// In this order, each before the next; values that no sound cube has count without sign.
	order := []api.Cube{
		{},
		{Value: api.Head{api.DstPort: 1}},
		{Value: api.Head{math.MaxUint64}},
		{Care: api.Head{api.DstPort: 1}},
		{Care: api.Head{api.DstPort: 1}, Value: api.Head{api.DstPort: 1}},
		{Care: api.Head{api.DstPort: 2}},
		{Care: api.Head{api.Src: 1}, Value: api.Head{api.Src: 1}},
		{Care: api.Head{api.Src: 1 << 31}},
		{Care: api.Head{1}, Value: api.Head{}},
		{Care: api.Head{1}, Value: api.Head{1}},
		{Care: full()},
		{Care: full(), Value: full()},
		{Care: api.Head{math.MaxUint64}},
	}
	for i, a := range order {
		for j, b := range order {
			got := Compare(a, b)
			if i < j && got >= 0 || i == j && got != 0 || i > j && got <= 0 {
				t.Errorf("Compare(%v, %v) = %d", a, b, got)
			}
			if got != head.Compare(a.Care, b.Care) && a.Care != b.Care {
				t.Errorf("Compare(%v, %v) = %d: not as chapter 1", a, b, got)
			}
		}
	}
}
