package code

import (
	"encoding/hex"
	"math"
	"reflect"
	"slices"
	"strconv"
	"strings"
	"testing"

	"podesta/api"
	"podesta/cube"
	"podesta/rule"
)

// spell returns the bytes that the words of text are in hexadecimal; 00*96 stands for that word so many times.
func spell(text string) []byte {
	var out []byte
	for _, word := range strings.Fields(text) {
		times := 1
		if short, number, ok := strings.Cut(word, "*"); ok {
			n, err := strconv.Atoi(number)
			if err != nil {
				panic(err)
			}
			word, times = short, n
		}
		b, err := hex.DecodeString(word)
		if err != nil {
			panic(err)
		}
		out = append(out, slices.Repeat(b, times)...)
	}
	return out
}

// values is a header with another number in each field; ones is the header of the largest numbers.
var (
	values = api.Head{0x0102, 0x030405060708, 0x090a0b0c0d0e, 0x0f10, 0x112, 0x3, 0x14151617, 0x18191a1b, 0x1c, 0x1d, 0xe1f, 0x021}
	ones   = api.Head{0xffff, 0xffffffffffff, 0xffffffffffff, 0xffff, 0xfff, 0xf, 0xffffffff, 0xffffffff, 0xff, 0xff, 0xfff, 0xfff}
)

// The bytes of values and ones.
const (
	valuesText = " 0000000000000102 0000030405060708 0000090a0b0c0d0e 0000000000000f10 0000000000000112 0000000000000003" +
		" 0000000014151617 0000000018191a1b 000000000000001c 000000000000001d 0000000000000e1f 0000000000000021 "
	onesText = " 000000000000ffff 0000ffffffffffff 0000ffffffffffff 000000000000ffff 0000000000000fff 000000000000000f" +
		" 00000000ffffffff 00000000ffffffff 00000000000000ff 00000000000000ff 0000000000000fff 0000000000000fff "
)

// acts is an action of each form.
func acts() []api.Act {
	return []api.Act{{Kind: api.Set, Field: api.Src, Value: 0xa1a2a3a4}, {Kind: api.Out, Port: 16}, {Kind: api.Tell}}
}

const actsText = " 03 02 00 06 00000000a1a2a3a4 01 10 00 0000000000000000 03 00 00 0000000000000000 "

// outs is a list of so many sound actions.
func outs(n int) []api.Act {
	return slices.Repeat([]api.Act{{Kind: api.Out, Port: 2}}, n)
}

// counted is a rule in which no number is zero.
func counted() api.Rule {
	return api.Rule{
		Match: api.Cube{Value: values, Care: ones}, Prio: 0x3132, Acts: acts(), Idle: 0x0a0b0c, Hard: 0x0d0e0f, Owner: 0xfe,
		Hits: 0x4142434445464748, Quiet: 0x5152535455565758, Age: 0x6162636465666768,
	}
}

const countedText = valuesText + onesText + " 3132 000a0b0c 000d0e0f fe 4142434445464748 5152535455565758 6162636465666768 " + actsText

// plain is a rule of which only the Prio may be other than zero.
func plain(prio int) api.Rule {
	return api.Rule{Prio: prio}
}

const plainText = " 00*192 0007 00000000 00000000 00 00*24 00 " // of Prio 7

// add is a change in which no number is zero.
func add() api.Mod {
	return api.Mod{
		Kind: api.Add, Match: api.Cube{Value: values, Care: ones}, Prio: 0x3132, Acts: acts(),
		Idle: 0x0a0b0c, Hard: 0x0d0e0f, Owner: 0xfe, Check: true,
	}
}

// sample is a sound message and its bytes, written out.
type sample struct {
	name  string
	msg   api.Msg
	bytes []byte
}

// samples is at least one message of each Kind.
func samples() []sample {
	return []sample{
		{"an Add", api.Msg{Kind: api.MsgMod, Txn: 0x71727374, Mod: add()},
			spell("01 71727374 01" + valuesText + onesText + "3132 000a0b0c 000d0e0f fe 01" + actsText)},
		{"a Modify", api.Msg{Kind: api.MsgMod, Txn: 258, Mod: api.Mod{Kind: api.Modify, Acts: outs(1), Owner: 3}},
			spell("01 00000102 02 00*192 0000 00000000 00000000 03 00 01 01 02 00 0000000000000000")},
		{"a Delete", api.Msg{Kind: api.MsgMod, Mod: api.Mod{Kind: api.Delete}},
			spell("01 00000000 03 00*192 0000 00000000 00000000 00 00 00")},
		{"a ModifyIt", api.Msg{Kind: api.MsgMod, Txn: 1, Mod: api.Mod{Kind: api.ModifyIt, Prio: 65535, Acts: acts()}},
			spell("01 00000001 04 00*192 ffff 00000000 00000000 00 00" + actsText)},
		{"a DeleteIt", api.Msg{Kind: api.MsgMod, Txn: 1, Mod: api.Mod{Kind: api.DeleteIt, Prio: 256, Owner: 255}},
			spell("01 00000001 05 00*192 0100 00000000 00000000 ff 00 00")},
		{"a barrier", api.Msg{Kind: api.MsgBarrier, Txn: 7}, spell("02 00 00 00 07")},
		{"a commit", api.Msg{Kind: api.MsgCommit, Txn: 0x01020304}, spell("03 01 02 03 04")},
		{"an undo", api.Msg{Kind: api.MsgUndo, Txn: 0xfffefdfc}, spell("04 ff fe fd fc")},
		{"a question", api.Msg{Kind: api.MsgAsk}, spell("05 00 00 00 00")},
		{"an error", api.Msg{Kind: api.MsgError, Txn: 0x0900, E: api.ErrFull}, spell("06 00 00 09 00 03")},
		{"an answer", api.Msg{Kind: api.MsgDone, Txn: 0xffffffff}, spell("07 ff ff ff ff")},
		{"a packet", api.Msg{Kind: api.MsgPacket, Txn: 1, Port: 16, Head: values}, spell("08 00000001 10" + valuesText)},
		{"a packet of zeros", api.Msg{Kind: api.MsgPacket, Port: 1}, spell("08 00000000 01 00*96")},
		{"a removed rule", api.Msg{Kind: api.MsgRemoved, Txn: 2, Rules: []api.Rule{counted()}}, spell("09 00000002 0001" + countedText)},
		{"a removed plain rule", api.Msg{Kind: api.MsgRemoved, Rules: []api.Rule{plain(7)}}, spell("09 00000000 0001" + plainText)},
		{"no rules", api.Msg{Kind: api.MsgStats, Txn: 0x0a000000}, spell("0a 0a000000 0000")},
		{"a rule", api.Msg{Kind: api.MsgStats, Rules: []api.Rule{plain(7)}}, spell("0a 00000000 0001" + plainText)},
		{"several rules", api.Msg{Kind: api.MsgStats, Txn: 3, Rules: []api.Rule{counted(), plain(7), plain(0)}},
			spell("0a 00000003 0003" + countedText + plainText + "00*228")},
	}
}

// withoutContents is the Kinds of messages that consist of Kind and Txn alone.
var withoutContents = []int{api.MsgBarrier, api.MsgCommit, api.MsgUndo, api.MsgAsk, api.MsgDone}

// accepted complains unless m is sound, has bytes, and these are those of m.
func accepted(t *testing.T, what string, m api.Msg) {
	t.Helper()
	if !Sound(m) {
		t.Errorf("%s: not sound", what)
	}
	b, e := Encode(m)
	if e != api.OK {
		t.Errorf("%s: Encode: error %d", what, e)
		return
	}
	if got, e := Decode(b); e != api.OK || !Same(got, m) {
		t.Errorf("%s: decoded again: %+v and error %d", what, got, e)
	}
}

// refused complains unless m is not sound and has no bytes.
func refused(t *testing.T, what string, m api.Msg) {
	t.Helper()
	if Sound(m) {
		t.Errorf("%s: sound", what)
	}
	if b, e := Encode(m); e != api.ErrForm || len(b) != 0 {
		t.Errorf("%s: Encode: % x and error %d, not ErrForm alone", what, b, e)
	}
}

// judged is accepted or refused.
func judged(t *testing.T, what string, m api.Msg, sound bool) {
	t.Helper()
	if sound {
		accepted(t, what, m)
	} else {
		refused(t, what, m)
	}
}

// P9.1: messages of each Kind are sound, and are the same after they are encoded and decoded.
func TestSamples(t *testing.T) {
	kinds := map[int]bool{}
	for _, s := range samples() {
		accepted(t, s.name, s.msg)
		kinds[s.msg.Kind] = true
	}
	if len(kinds) != api.MsgStats {
		t.Errorf("%d Kinds have a sample", len(kinds))
	}
}

// P9.1: no other Kind is sound, also one that looks like a Kind in its lowest byte, whatever contents it has.
func TestUnknownKind(t *testing.T) {
	for _, kind := range []int{0, 11, 12, 128, 255, 256, 257, 258, 266, 512 + 7, 1<<32 + 2, -1, -2, -254, math.MinInt, math.MaxInt} {
		refused(t, "Kind alone", api.Msg{Kind: kind})
		for _, s := range samples() {
			s.msg.Kind = kind
			refused(t, s.name+" with Kind "+strconv.Itoa(kind), s.msg)
		}
	}
	for kind := api.MsgMod; kind <= api.MsgStats; kind++ {
		bare := slices.Contains(withoutContents, kind) || kind == api.MsgStats
		judged(t, "no contents, Kind "+strconv.Itoa(kind), api.Msg{Kind: kind}, bare)
	}
}

// P9.1: the bounds of Txn, for each Kind.
func TestTxn(t *testing.T) {
	for _, s := range samples() {
		for _, txn := range []int{0, 1, 255, 256, 1<<31 - 1, 1 << 31, 1<<32 - 2, 1<<32 - 1} {
			s.msg.Txn = txn
			accepted(t, s.name+", Txn "+strconv.Itoa(txn), s.msg)
		}
		for _, txn := range []int{-1, -2, 1 << 32, 1<<32 + 1, -1 << 32, math.MinInt, math.MaxInt} {
			s.msg.Txn = txn
			refused(t, s.name+", Txn "+strconv.Itoa(txn), s.msg)
		}
	}
}

// extra is a content that some Kinds do not have.
type extra struct {
	name  string
	kinds []int // those that have it
	put   func(*api.Msg)
}

// extras is each content alone, each part of a change among them.
func extras() []extra {
	ofMod, ofPacket, ofRules := []int{api.MsgMod}, []int{api.MsgPacket}, []int{api.MsgRemoved, api.MsgStats}
	list := []extra{
		{"E", []int{api.MsgError}, func(m *api.Msg) { m.E = api.ErrArg }},
		{"a great E", []int{api.MsgError}, func(m *api.Msg) { m.E = math.MaxInt }},
		{"a negative E", []int{api.MsgError}, func(m *api.Msg) { m.E = -1 }},
		{"Mod", ofMod, func(m *api.Msg) { m.Mod = add() }},
		{"Mod.Kind", ofMod, func(m *api.Msg) { m.Mod.Kind = api.Add }},
		{"Mod.Prio", ofMod, func(m *api.Msg) { m.Mod.Prio = 1 }},
		{"Mod.Acts", ofMod, func(m *api.Msg) { m.Mod.Acts = outs(1) }},
		{"zero Mod.Acts", ofMod, func(m *api.Msg) { m.Mod.Acts = []api.Act{{}} }},
		{"Mod.Idle", ofMod, func(m *api.Msg) { m.Mod.Idle = 1 }},
		{"Mod.Hard", ofMod, func(m *api.Msg) { m.Mod.Hard = -1 }},
		{"Mod.Owner", ofMod, func(m *api.Msg) { m.Mod.Owner = 1 }},
		{"Mod.Check", ofMod, func(m *api.Msg) { m.Mod.Check = true }},
		{"Port", ofPacket, func(m *api.Msg) { m.Port = 1 }},
		{"a negative Port", ofPacket, func(m *api.Msg) { m.Port = -1 }},
		{"Head", ofPacket, func(m *api.Msg) { m.Head = values }},
		{"Rules", ofRules, func(m *api.Msg) { m.Rules = []api.Rule{counted()} }},
		{"zero Rules", ofRules, func(m *api.Msg) { m.Rules = []api.Rule{{}} }},
		{"bad Rules", ofRules, func(m *api.Msg) { m.Rules = []api.Rule{{Prio: -1}, {}} }},
	}
	for field := range api.Fields {
		number := " " + strconv.Itoa(field)
		list = append(list,
			extra{"Mod.Match.Value" + number, ofMod, func(m *api.Msg) { m.Mod.Match.Value[field] = 1 }},
			extra{"Mod.Match.Care" + number, ofMod, func(m *api.Msg) { m.Mod.Match.Care[field] = 1 }},
			extra{"Head" + number, ofPacket, func(m *api.Msg) { m.Head[field] = 1 << 63 }},
		)
	}
	return list
}

// P9.1: what the chapter does not mention for a Kind must be zero, for each Kind and each field.
func TestExtras(t *testing.T) {
	for _, s := range samples() {
		for _, x := range extras() {
			if slices.Contains(x.kinds, s.msg.Kind) {
				continue
			}
			m := s.msg
			x.put(&m)
			refused(t, s.name+" with "+x.name, m)
		}
		// An empty list is nothing.
		m := s.msg
		if len(m.Mod.Acts) == 0 {
			m.Mod.Acts = []api.Act{}
		}
		if len(m.Rules) == 0 {
			m.Rules = []api.Rule{}
		}
		accepted(t, s.name+" with empty lists", m)
	}
}

// P9.1: the bounds of E and Port, and a Head that is not sound.
func TestErrorAndPacket(t *testing.T) {
	for _, e := range []api.Errno{math.MinInt, -1, 0, 1, 2, api.ErrAbort, api.ErrDone, api.ErrDone + 1, 255, 256, 257, math.MaxInt} {
		judged(t, "E "+strconv.Itoa(int(e)), api.Msg{Kind: api.MsgError, Txn: 5, E: e}, e >= 1 && e <= 17)
	}
	for _, port := range []int{math.MinInt, -1, 0, 1, 2, 15, api.MaxPorts, api.MaxPorts + 1, 255, 256, 257, math.MaxInt} {
		judged(t, "Port "+strconv.Itoa(port), api.Msg{Kind: api.MsgPacket, Head: values, Port: port}, port >= 1 && port <= 16)
	}
	for field, most := range ones {
		for _, v := range []uint64{0, most, most + 1, 1 << 63, math.MaxUint64} {
			m := api.Msg{Kind: api.MsgPacket, Port: 1, Head: values}
			m.Head[field] = v
			judged(t, "Head", m, v <= most)
		}
	}
}

// P9.1: the change of a MsgMod must be sound.
func TestMod(t *testing.T) {
	for what, put := range map[string]func(*api.Mod){
		"Kind 0":           func(m *api.Mod) { m.Kind = 0 },
		"Kind 6":           func(m *api.Mod) { m.Kind = 6 },
		"Kind 257":         func(m *api.Mod) { m.Kind = 257 },
		"a Delete of more": func(m *api.Mod) { m.Kind = api.Delete },
		"Value":            func(m *api.Mod) { m.Match.Care = api.Head{} },
		"Care":             func(m *api.Mod) { m.Match.Care[api.Pcp] = 0x1f },
		"Prio":             func(m *api.Mod) { m.Prio = 65536 },
		"negative Prio":    func(m *api.Mod) { m.Prio = -1 },
		"Idle":             func(m *api.Mod) { m.Idle = api.MaxTime + 1 },
		"great Idle":       func(m *api.Mod) { m.Idle = 1 << 32 },
		"Hard":             func(m *api.Mod) { m.Hard = api.MaxTime + 1 },
		"negative Hard":    func(m *api.Mod) { m.Hard = -1 },
		"Owner":            func(m *api.Mod) { m.Owner = 256 },
		"an unsound Act":   func(m *api.Mod) { m.Acts[1].Port = 17 },
		"a great Field":    func(m *api.Mod) { m.Acts[0].Field = 256 + api.Src },
		"a Modify's Check": func(m *api.Mod) { m.Kind, m.Prio, m.Idle, m.Hard = api.Modify, 0, 0, 0 },
	} {
		m := api.Msg{Kind: api.MsgMod, Mod: add()}
		put(&m.Mod)
		refused(t, what, m)
	}
	for _, n := range []int{0, api.MaxPrio, api.MaxTime} {
		m := api.Msg{Kind: api.MsgMod, Mod: add()}
		m.Mod.Prio, m.Mod.Idle, m.Mod.Hard, m.Mod.Owner = min(n, api.MaxPrio), n, n, min(n, api.MaxOwner)
		accepted(t, "numbers up to "+strconv.Itoa(n), m)
	}
}

// P9.1: from no Acts to more than a byte can count.
func TestActs(t *testing.T) {
	for _, n := range []int{0, 1, 2, api.MaxActs - 1, api.MaxActs, api.MaxActs + 1, 255, 256, 257, 256 + api.MaxActs, 1000} {
		what := strconv.Itoa(n) + " Acts"
		sound := n <= api.MaxActs
		judged(t, what+" of a change", api.Msg{Kind: api.MsgMod, Mod: api.Mod{Kind: api.Add, Acts: outs(n)}}, sound)
		judged(t, what+" of a removed rule", api.Msg{Kind: api.MsgRemoved, Rules: []api.Rule{{Acts: outs(n)}}}, sound)
		judged(t, what+" of the second rule", api.Msg{Kind: api.MsgStats, Rules: []api.Rule{plain(7), {Acts: outs(n)}}}, sound)
	}
}

// unsound is rules that are not sound, by what is wrong.
func unsound() map[string]api.Rule {
	return map[string]api.Rule{
		"Prio": plain(-1), "great Prio": plain(65536), "Idle": {Idle: api.MaxTime + 1}, "Hard": {Hard: -1}, "Owner": {Owner: 256},
		"Hits": {Hits: -1}, "Quiet": {Quiet: math.MinInt}, "Age": {Age: -1},
		"Acts": {Acts: []api.Act{{}}}, "Match": {Match: api.Cube{Value: ones}},
	}
}

// P9.1: a MsgRemoved has just one rule, which is sound.
func TestRemoved(t *testing.T) {
	for n, sound := range []bool{false, true, false, false} {
		rules := []api.Rule{counted(), plain(7), plain(0)}[:n]
		judged(t, strconv.Itoa(n)+" rules", api.Msg{Kind: api.MsgRemoved, Rules: rules}, sound)
	}
	refused(t, "nil Rules", api.Msg{Kind: api.MsgRemoved})
	for what, r := range unsound() {
		refused(t, "an unsound "+what, api.Msg{Kind: api.MsgRemoved, Rules: []api.Rule{r}})
	}
	for _, n := range []int{0, 1, 1<<32 - 1, 1 << 62, 1<<62 + 1, math.MaxInt - 1, math.MaxInt} {
		r := counted()
		r.Hits, r.Quiet, r.Age = n, math.MaxInt-n, n/2
		accepted(t, "counts", api.Msg{Kind: api.MsgRemoved, Rules: []api.Rule{r}})
	}
}

// P9.1: the Rules of a MsgStats are a table.
func TestStats(t *testing.T) {
	narrow, e := cube.With(cube.All(), api.Vlan, 5, 12)
	if e != api.OK {
		t.Fatal(e)
	}
	for _, x := range []struct {
		what  string
		rules []api.Rule
		sound bool
	}{
		{"nil", nil, true},
		{"empty", []api.Rule{}, true},
		{"one", []api.Rule{counted()}, true},
		{"several", []api.Rule{counted(), plain(7), {Match: narrow}}, true},
		{"ordered by Match", []api.Rule{plain(7), {Prio: 7, Match: narrow}}, true},
		{"out of order by Prio", []api.Rule{plain(7), counted()}, false},
		{"out of order by Match", []api.Rule{{Prio: 7, Match: narrow}, plain(7)}, false},
		{"the same rule twice", []api.Rule{counted(), counted()}, false},
		{"the same key twice", []api.Rule{plain(7), {Prio: 7, Owner: 2, Hits: 1}}, false},
		{"the last two out of order", []api.Rule{counted(), plain(0), plain(1)}, false},
	} {
		judged(t, x.what, api.Msg{Kind: api.MsgStats, Rules: x.rules}, x.sound)
	}
	for what, r := range unsound() {
		refused(t, "one with an unsound "+what, api.Msg{Kind: api.MsgStats, Rules: []api.Rule{r}})
		refused(t, "last an unsound "+what, api.Msg{Kind: api.MsgStats, Rules: []api.Rule{counted(), r}})
	}
}

// P9.1: as many rules as two bytes can count, and one more.
func TestManyRules(t *testing.T) {
	var rules []api.Rule
	for prio := 65535; prio >= 0; prio-- {
		rules = append(rules, plain(prio))
	}
	if len(rules) != 65536 || !rule.Table(rules) {
		t.Fatalf("%d rules that may be no table", len(rules))
	}
	refused(t, "65536 rules", api.Msg{Kind: api.MsgStats, Rules: rules})
	accepted(t, "65535 rules", api.Msg{Kind: api.MsgStats, Rules: rules[:65535]})
	b, _ := Encode(api.Msg{Kind: api.MsgStats, Rules: rules[1:]})
	if len(b) != 7+65535*228 || b[5] != 255 || b[6] != 255 {
		t.Fatalf("%d bytes", len(b))
	}
	ended(t, "65535 rules, a byte less", b[:len(b)-1])
	formless(t, "65535 rules, a byte more", append(b, 0))
}

// whole is a message in which no field is zero; it is not sound.
func whole() api.Msg {
	return api.Msg{Kind: 1, Txn: 2, E: 3, Mod: add(), Port: 4, Head: values, Rules: []api.Rule{counted(), plain(7)}}
}

// changes is changes of a single field of the message whole.
func changes() map[string]func(*api.Msg) {
	out := map[string]func(*api.Msg){
		"Kind": func(m *api.Msg) { m.Kind++ }, "Txn": func(m *api.Msg) { m.Txn += 1 << 32 }, "E": func(m *api.Msg) { m.E = 0 },
		"Port": func(m *api.Msg) { m.Port = -4 }, "Mod": func(m *api.Msg) { m.Mod = api.Mod{} },
		"Mod.Kind": func(m *api.Msg) { m.Mod.Kind++ }, "Mod.Prio": func(m *api.Msg) { m.Mod.Prio++ },
		"Mod.Idle": func(m *api.Msg) { m.Mod.Idle++ }, "Mod.Hard": func(m *api.Msg) { m.Mod.Hard++ },
		"Mod.Owner": func(m *api.Msg) { m.Mod.Owner++ }, "Mod.Check": func(m *api.Msg) { m.Mod.Check = false },
		"no Mod.Acts":     func(m *api.Msg) { m.Mod.Acts = nil },
		"fewer Mod.Acts":  func(m *api.Msg) { m.Mod.Acts = m.Mod.Acts[:2] },
		"Mod.Acts' Kind":  func(m *api.Msg) { m.Mod.Acts[1].Kind++ },
		"Mod.Acts' Port":  func(m *api.Msg) { m.Mod.Acts[1].Port++ },
		"Mod.Acts' Field": func(m *api.Msg) { m.Mod.Acts[0].Field++ },
		"Mod.Acts' Value": func(m *api.Msg) { m.Mod.Acts[0].Value++ },
		"no Rules":        func(m *api.Msg) { m.Rules = nil },
		"fewer Rules":     func(m *api.Msg) { m.Rules = m.Rules[:1] },
		"more Rules":      func(m *api.Msg) { m.Rules = append(m.Rules, plain(0)) },
		"Rules' order":    func(m *api.Msg) { slices.Reverse(m.Rules) },
		"no Rules' Acts":  func(m *api.Msg) { m.Rules[0].Acts = nil },
		"Rules' Acts":     func(m *api.Msg) { m.Rules[0].Acts[2].Value++ },
		"Rules' Prio":     func(m *api.Msg) { m.Rules[1].Prio++ },
		"Rules' Idle":     func(m *api.Msg) { m.Rules[1].Idle++ },
		"Rules' Hard":     func(m *api.Msg) { m.Rules[1].Hard++ },
		"Rules' Owner":    func(m *api.Msg) { m.Rules[1].Owner++ },
		"Rules' Hits":     func(m *api.Msg) { m.Rules[1].Hits++ },
		"Rules' Quiet":    func(m *api.Msg) { m.Rules[1].Quiet++ },
		"Rules' Age":      func(m *api.Msg) { m.Rules[1].Age++ },
	}
	for field := range api.Fields {
		number := " " + strconv.Itoa(field)
		out["Head"+number] = func(m *api.Msg) { m.Head[field]++ }
		out["Mod.Match.Value"+number] = func(m *api.Msg) { m.Mod.Match.Value[field]++ }
		out["Mod.Match.Care"+number] = func(m *api.Msg) { m.Mod.Match.Care[field]++ }
		out["Rules' Value"+number] = func(m *api.Msg) { m.Rules[1].Match.Value[field]++ }
		out["Rules' Care"+number] = func(m *api.Msg) { m.Rules[1].Match.Care[field]++ }
	}
	return out
}

// P9.1: Same asks each field, of sound messages and of others.
func TestSame(t *testing.T) {
	if !Same(whole(), whole()) || !Same(api.Msg{}, api.Msg{}) {
		t.Error("a message differs from itself")
	}
	for name, put := range changes() {
		m, again := whole(), whole()
		put(&m)
		put(&again)
		if Same(m, whole()) || Same(whole(), m) {
			t.Errorf("another %s is not seen", name)
		}
		if !Same(m, again) {
			t.Errorf("another %s differs from itself", name)
		}
	}
	for i, a := range samples() {
		for j, b := range samples() {
			if Same(a.msg, b.msg) != (i == j) {
				t.Errorf("%s and %s", a.name, b.name)
			}
		}
	}
}

// P9.1: nil and empty lists are equal.
func TestSameNothing(t *testing.T) {
	acts := [][]api.Act{nil, {}, outs(1)[:0]}
	rules := [][]api.Rule{nil, {}, {counted()}}
	rules[2] = rules[2][:0]
	for i := range 3 {
		for j := range 3 {
			a, b := whole(), whole()
			a.Mod.Acts, b.Mod.Acts = acts[i], acts[j]
			a.Rules[1].Acts, b.Rules[1].Acts = acts[j], acts[i]
			if !Same(a, b) {
				t.Errorf("Acts %d and %d differ", i, j)
			}
			a.Rules, b.Rules = rules[i], rules[j]
			if !Same(a, b) {
				t.Errorf("Rules %d and %d differ", i, j)
			}
		}
	}
}

// spare returns m with lists that have spare capacity, and all that stands in these lists.
func spare(m api.Msg) (api.Msg, func() []any) {
	acts := append(slices.Clone(m.Mod.Acts), outs(3)...)
	rules := append(rule.Copy(m.Rules), counted(), plain(9))
	m.Mod.Acts, m.Rules = acts[:len(acts)-3], rules[:len(rules)-2]
	for i := range m.Rules {
		m.Rules[i].Acts = append(m.Rules[i].Acts, outs(2)...)[:len(m.Rules[i].Acts)]
	}
	return m, func() []any {
		all := []any{slices.Clone(acts), rule.Copy(rules)}
		for _, r := range m.Rules {
			all = append(all, slices.Clone(r.Acts[:len(r.Acts)+2]))
		}
		return all
	}
}

// R4: no message is changed, nor the spare capacity of its lists.
func TestMessagesAreNotChanged(t *testing.T) {
	list := samples()
	list = append(list, sample{name: "no sound one", msg: whole()}, sample{name: "two removed", msg: api.Msg{Kind: api.MsgRemoved, Rules: []api.Rule{counted(), plain(7)}}})
	for _, s := range list {
		m, look := spare(s.msg)
		before := look()
		Sound(m)
		Encode(m)
		Same(m, s.msg)
		Same(whole(), m)
		if !reflect.DeepEqual(look(), before) || !Same(m, s.msg) {
			t.Errorf("%s is changed: %+v", s.name, m)
		}
	}
}
