package code

import (
	"bytes"
	"math/rand"
	"reflect"
	"slices"
	"strconv"
	"testing"

	"podesta/api"
)

// decoded complains unless b is the bytes of m.
func decoded(t *testing.T, what string, b []byte, m api.Msg) {
	t.Helper()
	if got, e := Decode(b); e != api.OK || !Same(got, m) {
		t.Errorf("%s: error %d and\n%+v, not\n%+v", what, e, got, m)
	}
}

// failed complains unless Decode has this error and nothing beside it.
func failed(t *testing.T, what string, b []byte, want api.Errno) {
	t.Helper()
	if got, e := Decode(b); e != want || !reflect.DeepEqual(got, api.Msg{}) {
		t.Errorf("%s: %+v and error %d, not %d", what, got, e, want)
	}
}

func ended(t *testing.T, what string, b []byte) {
	t.Helper()
	failed(t, what, b, api.ErrEnd)
}

func formless(t *testing.T, what string, b []byte) {
	t.Helper()
	failed(t, what, b, api.ErrForm)
}

// patch returns b with other bytes from at on.
func patch(b []byte, at int, text string) []byte {
	out := slices.Clone(b)
	copy(out[at:], spell(text))
	return out
}

// Where the numbers of a change begin, and those of the first rule.
const (
	modKind, modMatch, modPrio, modIdle, modHard, modOwner, modCheck, modActs                = 5, 6, 198, 200, 204, 208, 209, 210
	ruleMatch, rulePrio, ruleIdle, ruleHard, ruleOwner, ruleHits, ruleQuiet, ruleAge, ruleNo = 7, 199, 201, 205, 209, 210, 218, 226, 234
)

// needs returns the least number of bytes that a message has that begins as b does.
func needs(b []byte) int {
	at := func(i int) int {
		if i < len(b) {
			return int(b[i])
		}
		return 0
	}
	switch at(0) {
	case api.MsgMod:
		return 211 + 11*at(modActs)
	case api.MsgError:
		return 6
	case api.MsgPacket:
		return 102
	case api.MsgRemoved, api.MsgStats:
		n := 7
		for range at(5)<<8 | at(6) {
			n += 228 + 11*at(n+227)
		}
		return n
	}
	return 5
}

// P9.1: the messages of the written bytes.
func TestDecode(t *testing.T) {
	for _, s := range samples() {
		decoded(t, s.name, s.bytes, s.msg)
		if n := needs(s.bytes); n != len(s.bytes) {
			t.Fatalf("%s needs %d bytes and has %d", s.name, n, len(s.bytes))
		}
	}
}

// P9.1: no bytes at all.
func TestDecodeNothing(t *testing.T) {
	ended(t, "nil", nil)
	ended(t, "empty", []byte{})
	ended(t, "cut to nothing", samples()[0].bytes[:0])
}

// P9.1: bytes that end early, at every place, whatever follows in the array.
func TestDecodeShort(t *testing.T) {
	for _, s := range samples() {
		for n := range s.bytes {
			what := s.name + ", " + strconv.Itoa(n) + " bytes"
			ended(t, what, s.bytes[:n])
			ended(t, what+" alone", slices.Clone(s.bytes[:n]))
		}
	}
}

// P9.1: bytes after a message.
func TestDecodeLong(t *testing.T) {
	for _, s := range samples() {
		for _, more := range []string{"00", "01", "ff", "00 00", "02 00 00 00 07", "00*300", "ff*300"} {
			formless(t, s.name+" and "+more, append(slices.Clone(s.bytes), spell(more)...))
		}
		formless(t, s.name+" twice", slices.Repeat(s.bytes, 2))
	}
}

// P9.1: of an unknown Kind just Kind and Txn are read.
func TestDecodeUnknownKind(t *testing.T) {
	for kind := range 256 {
		if kind >= api.MsgMod && kind <= api.MsgStats {
			continue
		}
		b := append([]byte{byte(kind)}, spell("00 00 00 07 00*400")...)
		what := "Kind " + strconv.Itoa(kind)
		for n := range 5 {
			ended(t, what+", fewer", b[:n])
		}
		formless(t, what+", five", b[:5])
		formless(t, what+", six", b[:6])
		formless(t, what+", many", b)
		for _, s := range samples() {
			formless(t, s.name+" as "+what, append([]byte{byte(kind)}, s.bytes[1:]...))
		}
	}
}

// spoilt is bytes of the right number with something that no sound message has, by what it is.
func spoilt() map[string][]byte {
	s := map[string][]byte{}
	for _, x := range samples() {
		s[x.name] = x.bytes
	}
	a, d, r := s["an Add"], s["a Delete"], s["a removed rule"]
	return map[string][]byte{
		"a change of Kind 0":        patch(a, modKind, "00"),
		"a change of Kind 6":        patch(a, modKind, "06"),
		"a change of Kind 255":      patch(a, modKind, "ff"),
		"an Add as a Modify":        patch(a, modKind, "02"),
		"Value without Care":        patch(a, modMatch+96, "00*8"),
		"a great Value":             patch(a, modMatch+40, "8000000000000003"),
		"a great Care":              patch(a, modMatch+96+40, "000000000000001f"),
		"Idle":                      patch(a, modIdle, "00100001"),
		"the greatest Idle":         patch(a, modIdle, "ffffffff"),
		"Hard":                      patch(a, modHard, "00100001"),
		"Hard in its highest byte":  patch(a, modHard, "80000000"),
		"Check 2":                   patch(a, modCheck, "02"),
		"Check 128":                 patch(a, modCheck, "80"),
		"Check 255":                 patch(a, modCheck, "ff"),
		"a Delete's Check":          patch(d, modCheck, "01"),
		"a Delete's Check 2":        patch(d, modCheck, "02"),
		"a Delete's Prio":           patch(d, modPrio, "0001"),
		"a Delete's Idle":           patch(d, modIdle, "00000001"),
		"an Act of Kind 0":          patch(a, modActs+1, "00"),
		"an Act of Kind 4":          patch(a, modActs+1, "04"),
		"an Act of Kind 255":        patch(a, modActs+1, "ff"),
		"a Set with a Port":         patch(a, modActs+2, "01"),
		"Field 12":                  patch(a, modActs+3, "0c"),
		"Field 255":                 patch(a, modActs+3, "ff"),
		"a great value":             patch(a, modActs+4, "0000000100000000"),
		"the greatest value":        patch(a, modActs+4, "ffffffffffffffff"),
		"an Out to 0":               patch(a, modActs+13, "00"),
		"an Out to 17":              patch(a, modActs+13, "11"),
		"an Out to 255":             patch(a, modActs+13, "ff"),
		"a Tell with a value":       patch(a, modActs+26, "0000000000000001"),
		"E 0":                       spell("06 00000000 00"),
		"E 18":                      spell("06 00000000 12"),
		"E 255":                     spell("06 00000000 ff"),
		"Port 0":                    spell("08 00000000 00 00*96"),
		"Port 17":                   spell("08 00000000 11 00*96"),
		"Port 255":                  spell("08 00000000 ff 00*96"),
		"a packet's header":         spell("08 00000000 01 00*94 1000"),
		"a packet's great header":   spell("08 00000000 01 80 00*95"),
		"no removed rule":           spell("09 00000000 0000"),
		"two removed rules":         spell("09 00000000 0002" + countedText + plainText),
		"two equal removed rules":   spell("09 00000000 0002" + plainText + plainText),
		"a rule's Idle":             patch(r, ruleIdle, "00100001"),
		"a rule's Hard":             patch(r, ruleHard, "ffffffff"),
		"a rule's Value":            patch(r, ruleMatch, "0000000000010000"),
		"Hits":                      patch(r, ruleHits, "8000000000000000"),
		"the greatest Hits":         patch(r, ruleHits, "ffffffffffffffff"),
		"Quiet":                     patch(r, ruleQuiet, "8000000000000000"),
		"the greatest Quiet":        patch(r, ruleQuiet, "ffffffffffffffff"),
		"Age":                       patch(r, ruleAge, "8000000000000000"),
		"the greatest Age":          patch(r, ruleAge, "ffffffffffffffff"),
		"rules out of order":        spell("0a 00000000 0002" + plainText + countedText),
		"the same rule twice":       spell("0a 00000000 0002" + plainText + plainText),
		"a bad second rule":         spell("0a 00000000 0002" + countedText + "00*194 80 00*33"),
		"nine Acts":                 spell("01 00000000 01 00*192 0000 00*8 00 00 09 01 02 00*9 01 02 00*9 01 02 00*9 01 02 00*9 01 02 00*9 01 02 00*9 01 02 00*9 01 02 00*9 01 02 00*9"),
		"255 Acts":                  spell("01 00000000 01 00*192 0000 00*8 00 00 ff 0300000000000000000000*255"),
		"a rule's 255 Acts":         spell("09 00000000 0001 00*227 ff 0300000000000000000000*255"),
		"255 Acts, then a rule":     spell("0a 00000000 0002 00*193 08 00*33 ff 0300000000000000000000*255" + plainText),
		"Acts that are not allowed": spell("01 00000000 03 00*192 0000 00*8 00 00 01 0300000000000000000000"),
	}
}

// P9.1: values that no sound message has; where the bytes also end early, that is what counts.
func TestDecodeInvalid(t *testing.T) {
	for what, b := range spoilt() {
		if needs(b) != len(b) {
			t.Fatalf("%s needs %d bytes and has %d", what, needs(b), len(b))
		}
		formless(t, what, b)
		formless(t, what+", and more", append(slices.Clone(b), 0))
		for n := range b {
			ended(t, what+", cut to "+strconv.Itoa(n), b[:n])
		}
	}
}

// P9.1: numbers at the ends of their bytes that a sound message has.
func TestDecodeBounds(t *testing.T) {
	most := samples()[0]
	most.bytes = patch(most.bytes, 1, "ffffffff")
	most.msg.Txn = 1<<32 - 1
	most.bytes = patch(most.bytes, modPrio, "ffff 00100000 00100000 ff 00")
	most.msg.Mod.Prio, most.msg.Mod.Idle, most.msg.Mod.Hard, most.msg.Mod.Owner, most.msg.Mod.Check = 65535, 1<<20, 1<<20, 255, false
	most.bytes = patch(most.bytes, modActs+4, "00000000ffffffff")
	most.msg.Mod.Acts[0].Value = 1<<32 - 1
	decoded(t, "the greatest change", most.bytes, most.msg)

	r := api.Msg{Kind: api.MsgRemoved, Rules: []api.Rule{{Prio: 0xfffe, Owner: 255, Hits: 1<<63 - 1, Quiet: 1<<63 - 2, Age: 1 << 62}}}
	decoded(t, "the greatest counts", spell("09 00000000 0001 00*192 fffe 00000000 00000000 ff 7fffffffffffffff 7ffffffffffffffe 4000000000000000 00"), r)
	r.Rules[0] = api.Rule{Prio: 1, Idle: 1, Hard: 1, Owner: 1, Hits: 1, Quiet: 1, Age: 1}
	decoded(t, "ones", spell("09 00000000 0001 00*192 0001 00000001 00000001 01 0000000000000001*3 00"), r)

	for e := 1; e <= 17; e++ {
		decoded(t, "E", []byte{6, 0, 0, 0, 0, byte(e)}, api.Msg{Kind: api.MsgError, E: api.Errno(e)})
	}
	for port := 1; port <= 16; port++ {
		b := append([]byte{8, 0, 0, 0, 0, byte(port)}, spell(onesText)...)
		decoded(t, "Port", b, api.Msg{Kind: api.MsgPacket, Port: port, Head: ones})
	}
	eight := api.Msg{Kind: api.MsgMod, Mod: api.Mod{Kind: api.Add, Acts: slices.Repeat([]api.Act{{Kind: api.Tell}}, 8)}}
	decoded(t, "eight Acts", spell("01 00000000 01 00*192 0000 00*8 00 00 08 0300000000000000000000*8"), eight)
}

// P9.1: the whole of Txn, whatever the Kind.
func TestDecodeTxn(t *testing.T) {
	for _, s := range samples() {
		for text, txn := range map[string]int{"00000000": 0, "00000001": 1, "01000000": 1 << 24, "7fffffff": 1<<31 - 1, "80000000": 1 << 31, "ffffffff": 1<<32 - 1} {
			s.msg.Txn = txn
			decoded(t, s.name+", Txn "+text, patch(s.bytes, 1, text), s.msg)
		}
	}
}

// P9.1: more rules or Acts are announced than follow.
func TestDecodeGreatNumbers(t *testing.T) {
	for _, kind := range []string{"09", "0a"} {
		for _, n := range []string{"0001", "0002", "00ff", "0100", "8000", "ffff"} {
			ended(t, n+" rules and nothing", spell(kind+" 00000000 "+n))
			ended(t, n+" rules and some bytes", spell(kind+" 00000000 "+n+" 00*227"))
			ended(t, n+" rules and some bytes of ones", spell(kind+" 00000000 "+n+" ff*227"))
		}
		for _, n := range []string{"0002", "0003", "0100", "ffff"} {
			ended(t, n+" rules and one", spell(kind+" 00000000 "+n+plainText))
			ended(t, n+" rules and one and a half", spell(kind+" 00000000 "+n+plainText+" 00*114"))
		}
		for _, n := range []string{"01", "02", "09", "80", "ff"} {
			ended(t, n+" Acts of a rule and nothing", spell(kind+" 00000000 0001 00*227 "+n))
			ended(t, n+" Acts of a rule and a part", spell(kind+" 00000000 0001 00*227 "+n+" 03 00*9"))
		}
	}
	for _, n := range []string{"04", "08", "09", "ff"} {
		ended(t, n+" Acts of a change", patch(samples()[0].bytes, modActs, n))
	}
	for _, n := range []string{"00", "01", "02"} {
		formless(t, n+" Acts of a change", patch(samples()[0].bytes, modActs, n))
	}
	several := samples()[len(samples())-1].bytes
	for _, n := range []string{"0000", "0001", "0002"} {
		formless(t, n+" rules, and more follow", patch(several, 5, n))
	}
	ended(t, "0004 rules", patch(several, 5, "0004"))
	ended(t, "0103 rules", patch(several, 5, "0103"))
}

// consistent complains unless b ends early where Decode says so, and is the bytes of what Decode returns.
func consistent(t *testing.T, what string, b []byte) (api.Msg, api.Errno) {
	t.Helper()
	m, e := Decode(b)
	if (e == api.ErrEnd) != (len(b) < needs(b)) {
		t.Errorf("%s: error %d, with %d bytes of %d: % x", what, e, len(b), needs(b), b)
	}
	switch e {
	case api.OK:
		if again, e := Encode(m); e != api.OK || !bytes.Equal(again, b) || !Sound(m) {
			t.Errorf("%s: %+v is not the message of % x", what, m, b)
		}
	case api.ErrEnd, api.ErrForm:
		if !reflect.DeepEqual(m, api.Msg{}) {
			t.Errorf("%s: %+v beside error %d", what, m, e)
		}
	default:
		t.Errorf("%s: error %d", what, e)
	}
	return m, e
}

// P9.1: each single byte of a message changed, to all that it can be: never the same message.
func TestDecodeEachByte(t *testing.T) {
	for _, s := range samples() {
		b := slices.Clone(s.bytes)
		for at, was := range s.bytes {
			for v := range 256 {
				if byte(v) == was {
					continue
				}
				b[at] = byte(v)
				what := s.name + ", byte " + strconv.Itoa(at) + " is " + strconv.Itoa(v)
				m, e := consistent(t, what, b)
				if e == api.OK && Same(m, s.msg) {
					t.Errorf("%s: not seen", what)
				}
				if at >= 1 && at <= 4 && e != api.OK {
					t.Errorf("%s: each Txn is one: error %d", what, e)
				}
			}
			b[at] = was
		}
	}
}

// P9.1: many bytes by chance, and messages of which a few bytes are by chance.
func TestDecodeByChance(t *testing.T) {
	chance := rand.New(rand.NewSource(9))
	list := samples()
	for range 50000 {
		b := slices.Clone(list[chance.Intn(len(list))].bytes)
		for range chance.Intn(4) {
			b[chance.Intn(len(b))] = byte(chance.Intn(256))
		}
		switch chance.Intn(4) {
		case 0:
			b = b[:chance.Intn(len(b)+1)]
		case 1:
			b = append(b, byte(chance.Intn(3)))
		}
		consistent(t, "a message with a few other bytes", b)
		for i := range b {
			b[i] = byte(chance.Intn(256))
		}
		if len(b) > 0 && chance.Intn(8) > 0 {
			b[0] = byte(chance.Intn(12))
		}
		consistent(t, "bytes by chance", b)
	}
}

// R4: the bytes are not changed, nor those behind them, and the message does not follow them.
func TestDecodeKeepsNothing(t *testing.T) {
	for _, s := range samples() {
		for _, n := range []int{len(s.bytes), len(s.bytes) - 1} {
			all := append(slices.Clone(s.bytes), spell("01 02 03 04")...)
			before := slices.Clone(all)
			m, e := Decode(all[:n])
			if !bytes.Equal(all, before) {
				t.Errorf("%s: the bytes became % x", s.name, all)
			}
			clear(all)
			if e == api.OK && !Same(m, s.msg) {
				t.Errorf("%s: the message follows the bytes", s.name)
			}
		}
	}
}

// spoil writes over all that the lists of m have memory for.
func spoil(m api.Msg) {
	clear(m.Mod.Acts[:cap(m.Mod.Acts)])
	for _, r := range m.Rules {
		clear(r.Acts[:cap(r.Acts)])
	}
	clear(m.Rules[:cap(m.Rules)])
}

// R4: two messages share nothing, and neither do the lists of one.
func TestDecodeNewMemory(t *testing.T) {
	for _, s := range samples() {
		first, _ := Decode(s.bytes)
		second, _ := Decode(s.bytes)
		spoil(first)
		if !Same(second, s.msg) {
			t.Errorf("%s: one message changed another", s.name)
		}
		decoded(t, s.name+", after another one is spoilt", s.bytes, s.msg)
	}
	m := api.Msg{Kind: api.MsgStats, Rules: []api.Rule{{Prio: 9, Acts: outs(1)}, {Prio: 8, Acts: outs(2)}, {Prio: 7, Acts: outs(3)}}}
	b, e := Encode(m)
	if e != api.OK {
		t.Fatal(e)
	}
	for i := range m.Rules {
		got, _ := Decode(b)
		clear(got.Rules[i].Acts[:cap(got.Rules[i].Acts)])
		want := slices.Clone(m.Rules)
		want[i].Acts = make([]api.Act, len(want[i].Acts))
		if !Same(got, api.Msg{Kind: api.MsgStats, Rules: want}) {
			t.Errorf("the Acts of rule %d changed others: %+v", i, got)
		}
	}
}
