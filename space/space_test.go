package space

import (
	"math"
	"math/rand"
	"slices"
	"testing"

	"podesta/api"
	"podesta/cube"
	"podesta/head"
)

// with is a cube that fixes the highest bits of one field; the arguments must be right.
func with(t *testing.T, c api.Cube, field int, v uint64, bits int) api.Cube {
	t.Helper()
	c, e := cube.With(c, field, v, bits)
	if e != api.OK {
		t.Fatalf("With(%d, %x, %d): %d", field, v, bits, e)
	}
	return c
}

// values is n cubes, each with one value of the field, so that no two of them meet.
func values(t *testing.T, field, n int) []api.Cube {
	t.Helper()
	var out []api.Cube
	for v := range n {
		out = append(out, with(t, cube.All(), field, uint64(v), head.Size(field)))
	}
	return out
}

// fixing is the cube that fixes the first n bits of a header, all of them to 1.
func fixing(t *testing.T, n int) api.Cube {
	t.Helper()
	c := cube.All()
	for f := range api.Fields {
		bits := min(n, head.Size(f))
		c = with(t, c, f, 1<<head.Size(f)-1, bits)
		n -= bits
	}
	return c
}

// onlyBit is the cube that fixes the n-th bit of a header alone, to 1.
func onlyBit(n int) api.Cube {
	var c api.Cube
	for f := range api.Fields {
		if n < head.Size(f) {
			c.Care[f] = 1 << (head.Size(f) - 1 - n)
			c.Value = c.Care
			return c
		}
		n -= head.Size(f)
	}
	return c
}

// times is a space of n equal cubes.
func times(n int, c api.Cube) []api.Cube {
	return slices.Repeat([]api.Cube{c}, n)
}

// unsoundCubes is cubes that are not sound, each for one reason.
func unsoundCubes() []api.Cube {
	return []api.Cube{
		{Value: api.Head{1}},
		{Value: api.Head{api.DstPort: 3}, Care: api.Head{api.DstPort: 1}},
		{Care: api.Head{api.Pcp: 16}},
		{Value: api.Head{api.Vlan: 1 << 12}, Care: api.Head{api.Vlan: 1 << 12}},
		{Care: api.Head{api.EthSrc: math.MaxUint64}},
	}
}

// The small world: a few bits of two fields may be fixed, so that every set of headers can be written out.
const (
	smallBits  = 6
	smallHeads = 1 << smallBits
)

// smallPlaces is where the bits of the small world are, from the highest one on.
var smallPlaces = [smallBits]struct{ field, bit int }{
	{api.EthDst, 47}, {api.EthDst, 5}, {api.EthDst, 0},
	{api.Tos, 7}, {api.Tos, 3}, {api.Tos, 0},
}

func smallHead(n int) api.Head {
	var h api.Head
	for i, p := range smallPlaces {
		if n>>(smallBits-1-i)&1 != 0 {
			h[p.field] |= 1 << p.bit
		}
	}
	return h
}

func smallCube(r *rand.Rand) api.Cube {
	care := r.Intn(smallHeads)
	return api.Cube{Care: smallHead(care), Value: smallHead(care & r.Intn(smallHeads))}
}

// smallSpace is at most that many sound cubes of the small world.
func smallSpace(r *rand.Rand, most int) []api.Cube {
	var out []api.Cube
	for range r.Intn(most + 1) {
		out = append(out, smallCube(r))
	}
	return out
}

// mixedSpace is a small space that may also have cubes that are not sound.
func mixedSpace(r *rand.Rand, most int) []api.Cube {
	out, bad := smallSpace(r, most), unsoundCubes()
	for range r.Intn(3) {
		out = slices.Insert(out, r.Intn(len(out)+1), bad[r.Intn(len(bad))])
	}
	return out
}

// contents is which headers of the small world are in the space, without the package's help.
func contents(s []api.Cube) [smallHeads]bool {
	var out [smallHeads]bool
	for n := range out {
		out[n] = slices.ContainsFunc(s, func(c api.Cube) bool { return cube.Has(c, smallHead(n)) })
	}
	return out
}

// leanAsWritten follows the chapter's sentence word by word: each cube is held against all others.
func leanAsWritten(s []api.Cube) []api.Cube {
	var out []api.Cube
	for i, c := range s {
		stays := cube.Sound(c)
		for j, d := range s {
			if cube.Within(c, d) && (c != d || j < i) {
				stays = false
			}
		}
		if stays {
			out = append(out, c)
		}
	}
	slices.SortStableFunc(out, cube.Compare)
	return out
}

// meetAsWritten and lessAsWritten follow the chapter for sound spaces.
func meetAsWritten(a, b []api.Cube) ([]api.Cube, api.Errno) {
	var all []api.Cube
	for _, c := range a {
		for _, d := range b {
			if m, ok := cube.Meet(c, d); ok {
				all = append(all, m)
			}
		}
	}
	if all = leanAsWritten(all); len(all) > api.MaxCubes {
		return nil, api.ErrFull
	}
	return all, api.OK
}

func lessAsWritten(a, b []api.Cube) ([]api.Cube, api.Errno) {
	list := leanAsWritten(a)
	for _, d := range b {
		var next []api.Cube
		for _, c := range list {
			next = append(next, cube.Less(c, d)...)
		}
		if list = leanAsWritten(next); len(list) > api.MaxCubes {
			return nil, api.ErrFull
		}
	}
	return list, api.OK
}

// P3.1: Sound.
func TestSound(t *testing.T) {
	many := values(t, api.Tos, api.MaxCubes+1)
	for _, s := range [][]api.Cube{nil, {}, {cube.All()}, many[:1], many[:api.MaxCubes], times(api.MaxCubes, cube.All())} {
		if !Sound(s) {
			t.Errorf("%d cubes are not sound", len(s))
		}
	}
	for _, s := range [][]api.Cube{many, times(api.MaxCubes+1, cube.All()), times(5000, many[3])} {
		if Sound(s) {
			t.Errorf("%d cubes are sound", len(s))
		}
	}
	for _, bad := range unsoundCubes() {
		for i := range api.MaxCubes {
			s := slices.Clone(many[:api.MaxCubes])
			s[i] = bad
			if Sound(s) || Sound(s[:i+1]) || Sound(s[i:i+1]) {
				t.Errorf("sound with %v at %d", bad, i)
			}
		}
	}
}

// P3.1: Has; neither cubes that are not sound nor too many cubes matter to the others.
func TestHas(t *testing.T) {
	many := values(t, api.Src, 200)
	many = append(many, unsoundCubes()...)
	for v := range uint64(210) {
		h := api.Head{api.Src: v, api.Tos: 9}
		if Has(many, h) != (v < 200) {
			t.Errorf("src %d: %v", v, Has(many, h))
		}
		if h[api.Pcp] = 16; Has(many, h) {
			t.Errorf("src %d: a header that is not sound", v)
		}
	}
	for _, s := range [][]api.Cube{nil, {}, unsoundCubes()} {
		for _, h := range []api.Head{{}, {1}, {api.DstPort: 3}, {api.Vlan: 1 << 12}} {
			if Has(s, h) {
				t.Errorf("%v has %v", s, h)
			}
		}
	}
	if Has([]api.Cube{cube.All()}, api.Head{math.MaxUint64}) || !Has([]api.Cube{cube.All()}, api.Head{}) {
		t.Error("All")
	}
}

// P3.1: Lean, with the result written out.
func TestLean(t *testing.T) {
	net := with(t, cube.All(), api.Src, 0x0a000000, 8)
	subnet := with(t, cube.All(), api.Src, 0x0a010000, 16)
	other := with(t, cube.All(), api.Src, 0x0b000000, 8)
	tagged := with(t, net, api.Vlan, 5, 12)
	vlan := with(t, cube.All(), api.Vlan, 5, 12)
	bad := unsoundCubes()
	cases := []struct{ s, want []api.Cube }{
		{nil, nil},
		{[]api.Cube{}, nil},
		{bad, nil},
		{[]api.Cube{net}, []api.Cube{net}},
		{[]api.Cube{net, net, net}, []api.Cube{net}},
		{[]api.Cube{net, subnet}, []api.Cube{net}},
		{[]api.Cube{subnet, net}, []api.Cube{net}},
		{[]api.Cube{subnet, other}, []api.Cube{other, subnet}},
		{[]api.Cube{other, net}, []api.Cube{net, other}},
		{[]api.Cube{vlan, other, subnet, tagged, subnet, net, tagged, other}, []api.Cube{net, other, vlan}},
		{[]api.Cube{tagged, vlan}, []api.Cube{vlan}},
		{[]api.Cube{net, cube.All(), vlan, bad[0], other}, []api.Cube{cube.All()}},
		{[]api.Cube{bad[1], subnet, bad[2], bad[2]}, []api.Cube{subnet}},
	}
	for _, c := range cases {
		if got := Lean(c.s); !slices.Equal(got, c.want) {
			t.Errorf("Lean(%v) = %v, want %v", c.s, got, c.want)
		}
	}
}

// P3.1: Lean knows no limit.
func TestLeanOfManyCubes(t *testing.T) {
	many := values(t, api.Src, 500)
	mixed := append(slices.Clone(many), many...)
	rand.New(rand.NewSource(1)).Shuffle(len(mixed), func(i, j int) { mixed[i], mixed[j] = mixed[j], mixed[i] })
	if got := Lean(mixed); !slices.Equal(got, many) {
		t.Errorf("%d cubes, want %d", len(got), len(many))
	}
	if got := Lean(append(mixed, cube.All())); !slices.Equal(got, []api.Cube{cube.All()}) {
		t.Errorf("%v", got)
	}
}

func TestLeanInSmallWorld(t *testing.T) {
	r := rand.New(rand.NewSource(2))
	shorter := 0
	for range 5000 {
		s := mixedSpace(r, 12)
		got, want := Lean(s), leanAsWritten(s)
		if !slices.Equal(got, want) {
			t.Fatalf("Lean(%v) = %v, want %v", s, got, want)
		}
		if contents(got) != contents(s) || !slices.Equal(Lean(got), got) {
			t.Fatalf("Lean(%v) = %v", s, got)
		}
		if len(got) > 1 && len(got) < len(s) {
			shorter++
		}
	}
	if shorter < 500 {
		t.Errorf("too few cases: %d", shorter)
	}
}

// P3.1: Touch.
func TestTouch(t *testing.T) {
	many := values(t, api.Src, 200)
	tagged := with(t, cube.All(), api.Vlan, 5, 12)
	cases := []struct {
		a, b []api.Cube
		want bool
	}{
		{nil, nil, false},
		{nil, []api.Cube{cube.All()}, false},
		{[]api.Cube{cube.All()}, []api.Cube{cube.All()}, true},
		{many[:100], many[100:], false},
		{many[:101], many[100:], true},
		{many[50:], many[:51], true},
		{many[:1], []api.Cube{tagged}, true},
		{[]api.Cube{tagged}, many[:1], true},
	}
	for i, c := range cases {
		if Touch(c.a, c.b) != c.want || Touch(c.b, c.a) != c.want {
			t.Errorf("case %d: not %v", i, c.want)
		}
	}
	for _, bad := range unsoundCubes() {
		for _, good := range []api.Cube{cube.All(), tagged, bad} {
			if Touch([]api.Cube{bad}, []api.Cube{good}) || Touch([]api.Cube{good}, []api.Cube{bad}) {
				t.Errorf("%v touches %v", bad, good)
			}
		}
		if !Touch([]api.Cube{bad, tagged}, []api.Cube{bad, tagged}) {
			t.Errorf("%v hides another cube", bad)
		}
	}
}

func TestTouchInSmallWorld(t *testing.T) {
	r := rand.New(rand.NewSource(3))
	var count [2]int
	for range 5000 {
		a, b := mixedSpace(r, 3), mixedSpace(r, 3)
		inA, inB := contents(a), contents(b)
		want, k := false, 0
		for n := range inA {
			if inA[n] && inB[n] {
				want, k = true, 1
			}
		}
		if Touch(a, b) != want {
			t.Fatalf("Touch(%v, %v) is not %v", a, b, want)
		}
		count[k]++
	}
	if min(count[0], count[1]) < 500 {
		t.Errorf("too few cases: %v", count)
	}
}

// expectErrForm demands ErrForm of all three functions, and nothing else beside it.
func expectErrForm(t *testing.T, a, b []api.Cube) {
	t.Helper()
	if s, e := Meet(a, b); e != api.ErrForm || len(s) != 0 {
		t.Errorf("Meet(%d, %d cubes) = %v %d", len(a), len(b), s, e)
	}
	if s, e := Less(a, b); e != api.ErrForm || len(s) != 0 {
		t.Errorf("Less(%d, %d cubes) = %v %d", len(a), len(b), s, e)
	}
	if ok, e := Within(a, b); e != api.ErrForm || ok {
		t.Errorf("Within(%d, %d cubes) = %v %d", len(a), len(b), ok, e)
	}
}

// P3.2: spaces that are not sound, on either side.
func TestErrForm(t *testing.T) {
	many := values(t, api.Src, api.MaxCubes+1)
	wrong := [][]api.Cube{many, times(api.MaxCubes+1, cube.All()), times(1000, many[0])}
	for _, bad := range unsoundCubes() {
		wrong = append(wrong, []api.Cube{bad}, []api.Cube{bad, cube.All()}, append(slices.Clone(many[:10]), bad))
	}
	right := [][]api.Cube{nil, {}, {cube.All()}, many[:api.MaxCubes]}
	for _, w := range wrong {
		for _, r := range right {
			expectErrForm(t, w, r)
			expectErrForm(t, r, w)
		}
		expectErrForm(t, w, w)
	}
	// The chapter names ErrForm ahead of ErrFull, also where the first step would already be too much.
	for _, bad := range unsoundCubes() {
		expectErrForm(t, []api.Cube{cube.All()}, []api.Cube{fixing(t, api.MaxCubes+1), bad})
	}
}

// P3.2: Meet, with the result written out.
func TestMeet(t *testing.T) {
	net := with(t, cube.All(), api.Src, 0x0a000000, 8)
	subnet := with(t, cube.All(), api.Src, 0x0a010000, 16)
	other := with(t, cube.All(), api.Src, 0x0b000000, 8)
	vlan := with(t, cube.All(), api.Vlan, 5, 12)
	all := []api.Cube{cube.All()}
	cases := []struct{ a, b, want []api.Cube }{
		{nil, nil, nil},
		{nil, all, nil},
		{all, nil, nil},
		{all, all, all},
		{[]api.Cube{net}, []api.Cube{other}, nil},
		{[]api.Cube{net}, []api.Cube{vlan}, []api.Cube{with(t, net, api.Vlan, 5, 12)}},
		{[]api.Cube{net, net}, []api.Cube{subnet, net}, []api.Cube{net}},
		{[]api.Cube{other, net}, []api.Cube{vlan, subnet}, []api.Cube{subnet, with(t, net, api.Vlan, 5, 12), with(t, other, api.Vlan, 5, 12)}},
		{all, []api.Cube{vlan, subnet, other, net}, []api.Cube{net, other, vlan}},
	}
	for i, c := range cases {
		if got, e := Meet(c.a, c.b); e != api.OK || !slices.Equal(got, c.want) {
			t.Errorf("case %d: Meet = %v %d, want %v", i, got, e, c.want)
		}
	}
}

// pairs is the cubes with one of so many values of src and one of so many of dst, sorted.
func pairs(t *testing.T, src, dst int) []api.Cube {
	t.Helper()
	var out []api.Cube
	for _, c := range values(t, api.Src, src) {
		for v := range dst {
			out = append(out, with(t, c, api.Dst, uint64(v), 32))
		}
	}
	return out
}

// P3.2: exactly MaxCubes cubes fit and one more does not; those within others do not count.
func TestMeetAtTheLimit(t *testing.T) {
	src, dst := values(t, api.Src, api.MaxCubes), values(t, api.Dst, api.MaxCubes)
	all := times(api.MaxCubes, cube.All())
	cases := []struct {
		a, b, want []api.Cube
		e          api.Errno
	}{
		{src[:8], dst[:8], pairs(t, 8, 8), api.OK},
		{dst[:8], src[:8], pairs(t, 8, 8), api.OK},
		{src[:13], dst[:5], nil, api.ErrFull},
		{src[:5], dst[:13], nil, api.ErrFull},
		{src, dst[:1], pairs(t, api.MaxCubes, 1), api.OK},
		{src, dst[:2], nil, api.ErrFull},
		{src, dst, nil, api.ErrFull},
		{src, src, src, api.OK},
		{src, all, src, api.OK},
		{all, src, src, api.OK},
		{all, all, all[:1], api.OK},
		{append(slices.Clone(src[:12]), cube.All()), append(slices.Clone(dst[:12]), cube.All()), all[:1], api.OK},
	}
	for i, c := range cases {
		if got, e := Meet(c.a, c.b); e != c.e || !slices.Equal(got, c.want) {
			t.Errorf("case %d: %d cubes, %d; want %d, %d", i, len(got), e, len(c.want), c.e)
		}
	}
}

// P3.2: Less, with the result written out.
func TestLess(t *testing.T) {
	net := with(t, cube.All(), api.Src, 0x0a000000, 8)
	half := with(t, cube.All(), api.Src, 0x0a000000, 9)
	rest := with(t, cube.All(), api.Src, 0x0a800000, 9)
	quarter := with(t, cube.All(), api.Src, 0x0a800000, 10)
	last := with(t, cube.All(), api.Src, 0x0ac00000, 10)
	other := with(t, cube.All(), api.Src, 0x0b000000, 8)
	all := []api.Cube{cube.All()}
	cases := []struct{ a, b, want []api.Cube }{
		{nil, nil, nil},
		{nil, all, nil},
		{all, nil, all},
		{all, all, nil},
		{[]api.Cube{other, half, net, net}, nil, []api.Cube{net, other}},
		{[]api.Cube{other, half, net, net}, []api.Cube{other, other}, []api.Cube{net}},
		{[]api.Cube{net}, []api.Cube{half}, []api.Cube{rest}},
		{[]api.Cube{net, other}, []api.Cube{half, quarter}, []api.Cube{other, last}},
		{[]api.Cube{net}, []api.Cube{quarter, rest}, []api.Cube{half}},
		{[]api.Cube{net}, []api.Cube{quarter, half}, []api.Cube{last}},
		{[]api.Cube{net}, []api.Cube{quarter}, []api.Cube{half, last}},
		{[]api.Cube{net, other}, []api.Cube{rest, half}, []api.Cube{other}},
	}
	for i, c := range cases {
		if got, e := Less(c.a, c.b); e != api.OK || !slices.Equal(got, c.want) {
			t.Errorf("case %d: Less = %v %d, want %v", i, got, e, c.want)
		}
	}
}

// P3.2: the limit applies after each step, to what Lean leaves.
func TestLessAtTheLimit(t *testing.T) {
	all := []api.Cube{cube.All()}
	fits, tooMuch := fixing(t, api.MaxCubes), fixing(t, api.MaxCubes+1)
	// Less of these two by the same cube has the same pieces, but for the first one of each.
	two := []api.Cube{onlyBit(0), onlyBit(1)}
	src := values(t, api.Src, api.MaxCubes)
	cases := []struct {
		a, b []api.Cube
		n    int
		e    api.Errno
	}{
		{all, []api.Cube{fits}, api.MaxCubes, api.OK},
		{all, []api.Cube{tooMuch}, 0, api.ErrFull},
		{all, []api.Cube{tooMuch, cube.All()}, 0, api.ErrFull},
		{all, []api.Cube{cube.All(), tooMuch}, 0, api.OK},
		{all, []api.Cube{onlyBit(64), tooMuch}, 1, api.OK},
		{all, []api.Cube{tooMuch, onlyBit(64)}, 0, api.ErrFull},
		{all, []api.Cube{fits, cube.All()}, 0, api.OK},
		{all, times(api.MaxCubes, fits), api.MaxCubes, api.OK},
		{all, []api.Cube{fixing(t, api.HeadBits)}, 0, api.ErrFull},
		{two, []api.Cube{fits}, api.MaxCubes, api.OK},
		{two, []api.Cube{tooMuch}, 0, api.ErrFull},
		{src, nil, api.MaxCubes, api.OK},
		{src, []api.Cube{tooMuch}, 0, api.ErrFull},
		{src, []api.Cube{with(t, tooMuch, api.Src, 100, 32)}, api.MaxCubes, api.OK},
		{src, []api.Cube{onlyBit(0)}, api.MaxCubes, api.OK},
		{src, []api.Cube{with(t, onlyBit(0), api.Src, 0, 32), with(t, fits, api.Src, 100, 32)}, api.MaxCubes, api.OK},
		{src, []api.Cube{with(t, fixing(t, 2), api.Src, 0, 32)}, 0, api.ErrFull},
		{src, []api.Cube{src[5], with(t, fixing(t, 2), api.Src, 0, 32)}, api.MaxCubes, api.OK},
		{src, []api.Cube{with(t, fixing(t, 2), api.Src, 0, 32), src[5]}, 0, api.ErrFull},
	}
	for i, c := range cases {
		got, e := Less(c.a, c.b)
		if e != c.e || len(got) != c.n {
			t.Errorf("case %d: %d cubes, %d; want %d, %d", i, len(got), e, c.n, c.e)
		}
		if c.e == api.OK {
			if want, _ := lessAsWritten(c.a, c.b); !slices.Equal(got, want) {
				t.Errorf("case %d: Less = %v, want %v", i, got, want)
			}
		}
		if in, e := Within(c.a, c.b); e != c.e || in != (c.e == api.OK && c.n == 0) {
			t.Errorf("case %d: Within = %v %d", i, in, e)
		}
	}
}

// P3.2: the greatest work of one step, some 15,000 cubes, soon ends.
func TestLessOfTheMostPieces(t *testing.T) {
	var s []api.Cube
	for n := range api.MaxCubes {
		s = append(s, onlyBit(api.HeadBits-1-n))
	}
	if got, e := Less(s, []api.Cube{fixing(t, api.HeadBits)}); e != api.ErrFull || len(got) != 0 {
		t.Errorf("%d cubes, %d", len(got), e)
	}
}

// P3.2: Within.
func TestWithin(t *testing.T) {
	net := with(t, cube.All(), api.Src, 0x0a000000, 8)
	half := with(t, cube.All(), api.Src, 0x0a000000, 9)
	rest := with(t, cube.All(), api.Src, 0x0a800000, 9)
	all := []api.Cube{cube.All()}
	cases := []struct {
		a, b []api.Cube
		want bool
	}{
		{nil, nil, true},
		{nil, all, true},
		{all, nil, false},
		{all, all, true},
		{[]api.Cube{net}, []api.Cube{half, rest}, true},
		{[]api.Cube{net}, []api.Cube{rest, half}, true},
		{[]api.Cube{net}, []api.Cube{half, half}, false},
		{[]api.Cube{half, rest}, []api.Cube{net}, true},
		{[]api.Cube{half, cube.All()}, []api.Cube{net}, false},
		{all, []api.Cube{net}, false},
		{all, []api.Cube{fixing(t, api.MaxCubes)}, false},
	}
	for i, c := range cases {
		if got, e := Within(c.a, c.b); e != api.OK || got != c.want {
			t.Errorf("case %d: %v %d", i, got, e)
		}
	}
	// The chapter's example: any sound space is within All.
	r := rand.New(rand.NewSource(4))
	for range 200 {
		s := smallSpace(r, api.MaxCubes)
		if ok, e := Within(s, all); e != api.OK || !ok {
			t.Fatalf("Within(%v, All) = %v %d", s, ok, e)
		}
	}
	if ok, e := Within(values(t, api.Src, api.MaxCubes), all); e != api.OK || !ok {
		t.Errorf("MaxCubes cubes: %v %d", ok, e)
	}
	// What is within may still be too much to find out.
	if ok, e := Within(all, []api.Cube{fixing(t, api.MaxCubes+1), cube.All()}); e != api.ErrFull || ok {
		t.Errorf("%v %d, want ErrFull", ok, e)
	}
}

// P3.2: against the headers written out, and against the chapter's words.
func TestSmallWorld(t *testing.T) {
	r := rand.New(rand.NewSource(5))
	within := 0
	for range 3000 {
		a, b := smallSpace(r, 10), smallSpace(r, 10)
		var both, less [smallHeads]bool
		inA, inB := contents(a), contents(b)
		for n := range both {
			both[n], less[n] = inA[n] && inB[n], inA[n] && !inB[n]
		}
		m, e := Meet(a, b)
		want, wantE := meetAsWritten(a, b)
		if e != wantE || !slices.Equal(m, want) || e == api.OK && contents(m) != both {
			t.Fatalf("Meet(%v, %v) = %v %d, want %v %d", a, b, m, e, want, wantE)
		}
		l, e := Less(a, b)
		want, wantE = lessAsWritten(a, b)
		if e != wantE || !slices.Equal(l, want) || e == api.OK && contents(l) != less {
			t.Fatalf("Less(%v, %v) = %v %d, want %v %d", a, b, l, e, want, wantE)
		}
		in, e := Within(a, b)
		if e != wantE || in != (e == api.OK && less == [smallHeads]bool{}) {
			t.Fatalf("Within(%v, %v) = %v %d", a, b, in, e)
		}
		if in {
			within++
		}
	}
	if within < 200 {
		t.Errorf("too few cases: %d", within)
	}
}

// call calls every function of the package and returns the lists that they return.
func call(a, b []api.Cube) [][]api.Cube {
	Sound(a)
	Has(a, api.Head{})
	Touch(a, b)
	Within(a, b)
	m, _ := Meet(a, b)
	l, _ := Less(a, b)
	alone, _ := Less(a, nil)
	return [][]api.Cube{Lean(a), Lean(b), m, l, alone}
}

// R4: arguments are not changed, their spare capacity neither, and the results share nothing with them or each other.
func TestMemory(t *testing.T) {
	r := rand.New(rand.NewSource(6))
	for range 500 {
		under := append(mixedSpace(r, 8), smallSpace(r, 8)...)
		cut := r.Intn(len(under) + 1)
		a, b := under[:cut], under[r.Intn(cut+1):]
		before := slices.Clone(under)
		results := call(a, b)
		if !slices.Equal(under, before) {
			t.Fatalf("arguments %v became %v", before, under)
		}
		expect := call(slices.Clone(a), slices.Clone(b))
		for i, s := range results {
			if !slices.Equal(s, expect[i]) {
				t.Fatalf("result %d hangs on memory: %v, %v", i, s, expect[i])
			}
		}
		scribble := api.Cube{Care: api.Head{7}, Value: api.Head{7}}
		for i, s := range results {
			s = s[:cap(s)]
			for j := range s {
				s[j] = scribble
			}
			for k := i + 1; k < len(results); k++ {
				if !slices.Equal(results[k], expect[k]) {
					t.Fatalf("results %d and %d share memory", i, k)
				}
			}
		}
		if !slices.Equal(under, before) {
			t.Fatalf("a result shares memory with an argument")
		}
	}
}
