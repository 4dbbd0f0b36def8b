package act

import (
	"math"
	"math/rand"
	"slices"
	"testing"

	"podesta/api"
	"podesta/head"
)

func out(port int) api.Act { return api.Act{Kind: api.Out, Port: port} }

func set(field int, v uint64) api.Act { return api.Act{Kind: api.Set, Field: field, Value: v} }

func tell() api.Act { return api.Act{Kind: api.Tell} }

// highest is the greatest value of a field.
func highest(field int) uint64 { return 1<<head.Size(field) - 1 }

// counting is a sound header in which every field has another value.
func counting() api.Head {
	var h api.Head
	for f := range h {
		h[f] = uint64(f + 1)
	}
	return h
}

// soundActs is sound actions: each port, the least and the greatest value of each field, and Tell.
func soundActs() []api.Act {
	list := []api.Act{tell()}
	for p := 1; p <= api.MaxPorts; p++ {
		list = append(list, out(p))
	}
	for f := range api.Fields {
		list = append(list, set(f, 0), set(f, 1), set(f, highest(f)))
	}
	return list
}

// unsoundActs is actions that are not sound, each for one reason.
func unsoundActs() []api.Act {
	list := []api.Act{
		out(0), out(-1), out(api.MaxPorts + 1), out(math.MaxInt), out(math.MinInt),
		{Kind: api.Out, Port: 1, Field: 1},
		{Kind: api.Out, Port: 1, Field: -1},
		{Kind: api.Out, Port: 1, Value: 1},
		{Kind: api.Out, Port: api.MaxPorts, Value: math.MaxUint64},
		set(-1, 0), set(api.Fields, 0), set(math.MaxInt, 0), set(math.MinInt, 0),
		{Kind: api.Set, Field: api.Vlan, Value: 5, Port: 1},
		{Kind: api.Set, Field: api.Vlan, Value: 5, Port: -1},
		{Kind: api.Set, Port: api.MaxPorts},
		{Kind: api.Tell, Port: 1},
		{Kind: api.Tell, Port: -1},
		{Kind: api.Tell, Field: 1},
		{Kind: api.Tell, Field: -1},
		{Kind: api.Tell, Value: 1},
		{},
	}
	for f := range api.Fields {
		list = append(list, set(f, highest(f)+1), set(f, math.MaxUint64))
	}
	for _, k := range []int{0, -1, 4, math.MaxInt, math.MinInt} {
		list = append(list, api.Act{Kind: k}, api.Act{Kind: k, Port: 1}, api.Act{Kind: k, Field: 1}, api.Act{Kind: k, Value: 1})
	}
	return list
}

// P4.1: an action is sound in one of three forms alone; example 1 and the edges of ports and values.
func TestSoundOneAction(t *testing.T) {
	for _, a := range soundActs() {
		if !Sound([]api.Act{a}) {
			t.Errorf("Sound(%v) is false", a)
		}
	}
	for _, a := range unsoundActs() {
		if Sound([]api.Act{a}) {
			t.Errorf("Sound(%v) is true", a)
		}
	}
}

// P4.1: every number near an edge, in every place, against the chapter's words written out.
func TestSoundAsWritten(t *testing.T) {
	numbers := []int{math.MinInt, -1, 0, 1, 2, 11, 12, api.MaxPorts, api.MaxPorts + 1, math.MaxInt}
	values := []uint64{0, 1, 15, 16, 255, 256, 4095, 4096, 65535, 65536, 1<<32 - 1, 1 << 32, 1<<48 - 1, 1 << 48, math.MaxUint64}
	for kind := -1; kind <= 5; kind++ {
		for _, port := range numbers {
			for _, field := range append(numbers, 3, 4, 5, 6, 7, 8, 9, 10) {
				for _, v := range values {
					var want bool
					switch kind {
					case 1:
						want = 1 <= port && port <= 16 && field == 0 && v == 0
					case 2:
						want = 0 <= field && field < 12 && v < 1<<head.Size(field) && port == 0
					case 3:
						want = port == 0 && field == 0 && v == 0
					}
					a := api.Act{Kind: kind, Port: port, Field: field, Value: v}
					if got := Sound([]api.Act{a}); got != want {
						t.Fatalf("Sound(%v) is %v", a, got)
					}
				}
			}
		}
	}
}

// P4.1: an empty list is sound, so are MaxActs actions, and one more is too many.
func TestSoundLength(t *testing.T) {
	if !Sound(nil) || !Sound([]api.Act{}) {
		t.Error("an empty list is not sound")
	}
	for _, a := range []api.Act{out(1), set(api.Vlan, 5), tell()} {
		for n := range 2*api.MaxActs + 2 {
			if got := Sound(slices.Repeat([]api.Act{a}, n)); got != (n <= api.MaxActs) {
				t.Errorf("Sound of %d times %v is %v", n, a, got)
			}
		}
	}
}

// P4.1: one unsound action anywhere makes the list unsound.
func TestSoundEachPlace(t *testing.T) {
	for place := range api.MaxActs {
		for _, bad := range unsoundActs() {
			list := slices.Repeat([]api.Act{out(1)}, api.MaxActs)
			list[place] = bad
			if Sound(list) {
				t.Errorf("sound with %v at %d", bad, place)
			}
		}
	}
}

// P4.1: lists written out, with what they send and tell.
func TestRun(t *testing.T) {
	h := counting()
	vlan5, vlan7, both := h, h, h
	vlan5[api.Vlan] = 5
	vlan7[api.Vlan] = 7
	both[api.Vlan], both[api.Dst] = 5, 1<<32-1
	for _, c := range []struct {
		name string
		list []api.Act
		out  []api.Send
		tell bool
	}{
		{"nil", nil, nil, false},
		{"empty", []api.Act{}, nil, false},
		{"example 1", []api.Act{set(api.Vlan, 5), out(2)}, []api.Send{{Port: 2, Head: vlan5}}, false},
		{"only Set", []api.Act{set(api.Vlan, 5)}, nil, false},
		{"only Tell", []api.Act{tell()}, nil, true},
		{"several Tells", []api.Act{tell(), tell(), tell()}, nil, true},
		{"Tell first", []api.Act{tell(), out(1)}, []api.Send{{Port: 1, Head: h}}, true},
		{"Tell last", []api.Act{out(1), tell()}, []api.Send{{Port: 1, Head: h}}, true},
		{"Tells around", []api.Act{tell(), out(1), tell(), set(api.Vlan, 5), out(1), tell()}, []api.Send{{Port: 1, Head: h}, {Port: 1, Head: vlan5}}, true},
		{"Out before Set", []api.Act{out(16), set(api.Vlan, 5)}, []api.Send{{Port: 16, Head: h}}, false},
		{
			"Out before, between and after Sets",
			[]api.Act{out(3), set(api.Vlan, 5), out(1), set(api.Dst, 1<<32-1), out(2)},
			[]api.Send{{Port: 3, Head: h}, {Port: 1, Head: vlan5}, {Port: 2, Head: both}},
			false,
		},
		{"the later Set counts", []api.Act{set(api.Vlan, 5), set(api.Vlan, 7), out(1)}, []api.Send{{Port: 1, Head: vlan7}}, false},
		{"Set and back", []api.Act{set(api.Vlan, 5), out(1), set(api.Vlan, h[api.Vlan]), out(1)}, []api.Send{{Port: 1, Head: vlan5}, {Port: 1, Head: h}}, false},
		{"one port again and again", []api.Act{out(4), out(4), out(4)}, []api.Send{{Port: 4, Head: h}, {Port: 4, Head: h}, {Port: 4, Head: h}}, false},
		{"MaxActs", slices.Repeat([]api.Act{out(4)}, api.MaxActs), slices.Repeat([]api.Send{{Port: 4, Head: h}}, api.MaxActs), false},
	} {
		sent, told := Run(c.list, h)
		if !slices.Equal(sent, c.out) || told != c.tell {
			t.Errorf("%s: %v, %v", c.name, sent, told)
		}
	}
}

// P4.1: Set changes its own field alone, whatever the field; an in port is a field like the others.
func TestRunSetsEachField(t *testing.T) {
	for f := range api.Fields {
		want := counting()
		want[f] = highest(f)
		sent, told := Run([]api.Act{set(f, highest(f)), out(1)}, counting())
		if told || !slices.Equal(sent, []api.Send{{Port: 1, Head: want}}) {
			t.Errorf("field %d: %v, %v", f, sent, told)
		}
	}
}

// P4.1: a list that is not sound sends and tells nothing, not even what is ahead of the unsound action.
func TestRunUnsound(t *testing.T) {
	var lists [][]api.Act
	for _, bad := range unsoundActs() {
		lists = append(lists, []api.Act{bad}, []api.Act{tell(), out(1), bad}, []api.Act{bad, out(1), tell()})
	}
	for _, a := range []api.Act{out(1), set(api.Vlan, 5), tell()} {
		lists = append(lists, slices.Repeat([]api.Act{a}, api.MaxActs+1))
	}
	for _, list := range lists {
		if sent, told := Run(list, counting()); len(sent) != 0 || told {
			t.Errorf("Run(%v): %v, %v", list, sent, told)
		}
	}
}

// P4.1, R1: a header that is not sound is sent as it is; Set changes the one field.
func TestRunUnsoundHead(t *testing.T) {
	var h api.Head
	for f := range h {
		h[f] = math.MaxUint64
	}
	changed := h
	changed[api.Pcp] = 15
	sent, told := Run([]api.Act{out(1), set(api.Pcp, 15), out(2), tell()}, h)
	if !told || !slices.Equal(sent, []api.Send{{Port: 1, Head: h}, {Port: 2, Head: changed}}) {
		t.Errorf("%v, %v", sent, told)
	}
}

// runAsWritten works out each Out for itself: the header with the last value that was set ahead of it in each field.
func runAsWritten(list []api.Act, h api.Head) (sent []api.Send, told bool) {
	for i, a := range list {
		told = told || a.Kind == api.Tell
		if a.Kind != api.Out {
			continue
		}
		s := api.Send{Port: a.Port}
		for f := range h {
			s.Head[f] = h[f]
			for j := i - 1; j >= 0; j-- {
				if list[j].Kind == api.Set && list[j].Field == f {
					s.Head[f] = list[j].Value
					break
				}
			}
		}
		sent = append(sent, s)
	}
	return sent, told
}

// P4.1: many lists of any order.
func TestRunAsWritten(t *testing.T) {
	r := rand.New(rand.NewSource(4))
	acts := soundActs()
	for range 3000 {
		list := make([]api.Act, r.Intn(api.MaxActs+1))
		for i := range list {
			list[i] = acts[r.Intn(len(acts))]
			// Few fields, so that one is set several times.
			if list[i].Kind == api.Set && r.Intn(2) == 0 {
				list[i] = set(api.Vlan, uint64(r.Intn(3)))
			}
		}
		sent, told := Run(list, counting())
		wantSent, wantTold := runAsWritten(list, counting())
		if !slices.Equal(sent, wantSent) || told != wantTold {
			t.Fatalf("Run(%v): %v, %v", list, sent, told)
		}
	}
}

// P4.1: lists are the same if they have the same actions in the same order.
func TestSame(t *testing.T) {
	l := []api.Act{out(1), set(api.Vlan, 5), tell()}
	for _, c := range []struct {
		name string
		a, b []api.Act
		want bool
	}{
		{"nil and nil", nil, nil, true},
		{"nil and empty", nil, []api.Act{}, true},
		{"nothing and something", nil, l, false},
		{"itself", l, l, true},
		{"a copy", l, slices.Clone(l), true},
		{"shorter", l, l[:2], false},
		{"without the first", l, l[1:], false},
		{"longer", l, append(slices.Clone(l), tell()), false},
		{"another order", l, []api.Act{set(api.Vlan, 5), out(1), tell()}, false},
		{"the same effect", []api.Act{tell()}, []api.Act{tell(), tell()}, false},
		{"a zero action", nil, []api.Act{{}}, false},
	} {
		if got := Same(c.a, c.b); got != c.want {
			t.Errorf("%s: %v", c.name, got)
		}
		if got := Same(c.b, c.a); got != c.want {
			t.Errorf("%s, turned round: %v", c.name, got)
		}
	}
}

// P4.1: one number of one action is enough to differ, in any place of the list.
func TestSameOneNumber(t *testing.T) {
	for place := range api.MaxActs {
		for i, change := range []func(*api.Act){
			func(a *api.Act) { a.Kind++ },
			func(a *api.Act) { a.Port++ },
			func(a *api.Act) { a.Field++ },
			func(a *api.Act) { a.Value++ },
			func(a *api.Act) { a.Value ^= 1 << 63 },
		} {
			a := slices.Repeat([]api.Act{set(api.Src, 9)}, api.MaxActs)
			b := slices.Clone(a)
			change(&b[place])
			if Same(a, b) || Same(b, a) {
				t.Errorf("change %d at %d is not seen", i, place)
			}
		}
	}
}

// P4.1, R1: lists that are not sound are compared like others, also long ones.
func TestSameUnsound(t *testing.T) {
	long := slices.Repeat(unsoundActs(), 5)
	if !Same(long, slices.Clone(long)) {
		t.Error("a copy of a long unsound list differs")
	}
	if Same(long, long[:len(long)-1]) {
		t.Error("a shorter unsound list is the same")
	}
	for _, a := range unsoundActs() {
		if !Same([]api.Act{a}, []api.Act{a}) {
			t.Errorf("%v differs from itself", a)
		}
	}
}

// P4.1, R4: no list is changed, nor its spare capacity; what is sent is new memory.
func TestMemory(t *testing.T) {
	whole := []api.Act{set(api.Vlan, 5), out(1), tell(), out(2), out(9), set(api.Src, 3)}
	before := slices.Clone(whole)
	list := whole[:4]
	first, _ := Run(list, counting())
	second, _ := Run(list, counting())
	Sound(list)
	Same(list, whole[1:3])
	Same(whole[1:3], list)
	Run(append(slices.Clone(list), api.Act{}), counting())
	if !slices.Equal(whole, before) {
		t.Errorf("the list became %v", whole)
	}
	for i := range first {
		first[i] = api.Send{}
	}
	_ = append(first, api.Send{Port: 7})
	third, _ := Run(list, counting())
	if len(second) != 2 || !slices.Equal(second, third) {
		t.Errorf("one result changed another: %v, %v", second, third)
	}
}
