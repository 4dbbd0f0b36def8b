package head

import (
	"math"
	"math/bits"
	"testing"

	"podesta/api"
)

// document is the fields as the chapter and api list them, written out apart from the package's own table.
var document = []struct {
	number int
	name   string
	size   int
}{
	{api.InPort, "in", 16},
	{api.EthSrc, "esrc", 48},
	{api.EthDst, "edst", 48},
	{api.EthType, "etype", 16},
	{api.Vlan, "vlan", 12},
	{api.Pcp, "pcp", 4},
	{api.Src, "src", 32},
	{api.Dst, "dst", 32},
	{api.Proto, "proto", 8},
	{api.Tos, "tos", 8},
	{api.SrcPort, "sport", 12},
	{api.DstPort, "dport", 12},
}

var unknownFields = []int{-1, -2, api.Fields, api.Fields + 1, 1 << 32, math.MinInt, math.MaxInt}

// full is the header with the largest value of each field.
func full() api.Head {
	var h api.Head
	for _, d := range document {
		h[d.number] = 1<<d.size - 1
	}
	return h
}

// P1.1: Size and Name.
func TestSizeAndName(t *testing.T) {
	if len(document) != api.Fields {
		t.Fatalf("%d fields", len(document))
	}
	total := 0
	for _, d := range document {
		if got := Size(d.number); got != d.size {
			t.Errorf("Size(%d) = %d, want %d", d.number, got, d.size)
		}
		if got := Name(d.number); got != d.name {
			t.Errorf("Name(%d) = %q, want %q", d.number, got, d.name)
		}
		total += Size(d.number)
	}
	if total != api.HeadBits {
		t.Errorf("the sizes add up to %d, want %d", total, api.HeadBits)
	}
	for _, f := range unknownFields {
		if Size(f) != 0 || Name(f) != "" {
			t.Errorf("field %d: %d %q, want 0 and nothing", f, Size(f), Name(f))
		}
	}
}

// P1.1: Field.
func TestField(t *testing.T) {
	for _, d := range document {
		if got, ok := Field(d.name); !ok || got != d.number {
			t.Errorf("Field(%q) = %d %v, want %d", d.name, got, ok, d.number)
		}
	}
	for _, name := range []string{"", "i", "inn", "IN", "Src", " src", "src ", "src\x00", "\x00", "\xff\xfe", "ports", "11", "dst\n", "übung"} {
		if got, ok := Field(name); ok || got != 0 {
			t.Errorf("Field(%q) = %d %v, want 0 false", name, got, ok)
		}
	}
}

// P1.1: Sound.
func TestSound(t *testing.T) {
	if !Sound(api.Head{}) {
		t.Error("the zero header is not sound")
	}
	if !Sound(full()) {
		t.Error("the header of the largest values is not sound")
	}
	for _, d := range document {
		for _, v := range []uint64{1 << d.size, 1<<d.size + 1, 1 << 63, math.MaxUint64} {
			for _, h := range []api.Head{{}, full()} {
				h[d.number] = v
				if Sound(h) {
					t.Errorf("%s = %x is sound", d.name, v)
				}
			}
		}
	}
}

// P1.1: Mask, for each number of bits that a field has.
func TestMask(t *testing.T) {
	for _, d := range document {
		for n := 0; n <= d.size; n++ {
			m, ok := Mask(d.number, n)
			if !ok || bits.OnesCount64(m) != n || m>>d.size != 0 {
				t.Errorf("Mask(%s, %d) = %x %v", d.name, n, m, ok)
			}
			// The ones are the highest bits: below them are zeros alone.
			if n > 0 && bits.TrailingZeros64(m) != d.size-n {
				t.Errorf("Mask(%s, %d) = %x: not the highest bits", d.name, n, m)
			}
		}
	}
	if m, ok := Mask(api.Src, 8); !ok || m != 0xff000000 {
		t.Errorf("the chapter's example: %x %v", m, ok)
	}
}

func TestMaskOfNothing(t *testing.T) {
	for _, d := range document {
		for _, n := range []int{-1, d.size + 1, 64, 65, math.MinInt, math.MaxInt} {
			if m, ok := Mask(d.number, n); ok || m != 0 {
				t.Errorf("Mask(%s, %d) = %x %v, want 0 false", d.name, n, m, ok)
			}
		}
	}
	for _, f := range unknownFields {
		for _, n := range []int{-1, 0, 1, 64, math.MinInt, math.MaxInt} {
			if m, ok := Mask(f, n); ok || m != 0 {
				t.Errorf("Mask(%d, %d) = %x %v, want 0 false", f, n, m, ok)
			}
		}
	}
}

// P1.1: Set.
func TestSet(t *testing.T) {
	for _, d := range document {
		for _, v := range []uint64{0, 1, 1<<d.size - 1} {
			for _, before := range []api.Head{{}, full()} {
				want := before
				want[d.number] = v
				if got, e := Set(before, d.number, v); e != api.OK || got != want {
					t.Errorf("Set(%v, %s, %x) = %v %d", before, d.name, v, got, e)
				}
			}
		}
	}
}

// The chapter asks for v alone to fit: the rest of the header is handed on as it is.
func TestSetKeepsUnsoundValues(t *testing.T) {
	var h api.Head
	h[api.Pcp], h[api.Tos] = math.MaxUint64, math.MaxUint64
	want := h
	want[api.Tos] = 7
	if got, e := Set(h, api.Tos, 7); e != api.OK || got != want {
		t.Errorf("%v %d, want %v", got, e, want)
	}
}

func TestSetErrors(t *testing.T) {
	for _, d := range document {
		for _, v := range []uint64{1 << d.size, 1 << 63, math.MaxUint64} {
			if got, e := Set(full(), d.number, v); e != api.ErrRange || got != (api.Head{}) {
				t.Errorf("Set(%s, %x) = %v %d, want ErrRange", d.name, v, got, e)
			}
		}
	}
	for _, f := range unknownFields {
		for _, v := range []uint64{0, 1, math.MaxUint64} {
			if got, e := Set(full(), f, v); e != api.ErrArg || got != (api.Head{}) {
				t.Errorf("Set(%d, %x) = %v %d, want ErrArg", f, v, got, e)
			}
		}
	}
}

// expectOrder demands that a is before b, and b after a.
func expectOrder(t *testing.T, a, b api.Head) {
	t.Helper()
	if Compare(a, b) >= 0 || Compare(b, a) <= 0 {
		t.Errorf("%v, %v: %d %d", a, b, Compare(a, b), Compare(b, a))
	}
}

// P1.1: Compare.
func TestCompare(t *testing.T) {
	for _, h := range []api.Head{{}, full(), {api.Dst: math.MaxUint64}} {
		if Compare(h, h) != 0 {
			t.Errorf("%v is not equal to itself", h)
		}
	}
	for f := range api.Fields {
		var low, high api.Head
		high[f] = 1
		expectOrder(t, low, high)
		// Only the first field that differs counts, whatever stands in the later ones.
		for later := f + 1; later < api.Fields; later++ {
			low[later] = math.MaxUint64
		}
		expectOrder(t, low, high)
		// What the headers have in common ahead of it does not count.
		for earlier := range f {
			low[earlier], high[earlier] = 9, 9
		}
		expectOrder(t, low, high)
		// Values are without sign, also those that no sound header has.
		low[f], high[f] = 1, math.MaxUint64
		expectOrder(t, low, high)
	}
}
