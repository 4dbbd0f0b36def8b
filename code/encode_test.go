package code

import (
	"bytes"
	"testing"

	"podesta/api"
)

// P9.1: the bytes of a message of each Kind.
func TestEncode(t *testing.T) {
	for _, s := range samples() {
		if b, e := Encode(s.msg); e != api.OK || !bytes.Equal(b, s.bytes) {
			t.Errorf("%s: error %d and\n% x, not\n% x", s.name, e, b, s.bytes)
		}
	}
}

// P9.1: the chapter's example.
func TestExample(t *testing.T) {
	b, e := Encode(api.Msg{Kind: api.MsgBarrier, Txn: 7})
	if e != api.OK || string(b) != "\x02\x00\x00\x00\x07" {
		t.Errorf("% x and error %d", b, e)
	}
}

// P9.1: the greatest numbers that a sound message has.
func TestEncodeGreatest(t *testing.T) {
	most := api.Rule{
		Match: api.Cube{Value: ones, Care: ones}, Prio: api.MaxPrio, Idle: api.MaxTime, Hard: api.MaxTime, Owner: api.MaxOwner,
		Hits: 1<<63 - 1, Quiet: 1<<63 - 1, Age: 1<<63 - 1, Acts: []api.Act{{Kind: api.Set, Field: api.EthDst, Value: 1<<48 - 1}},
	}
	b, e := Encode(api.Msg{Kind: api.MsgStats, Txn: 1<<32 - 1, Rules: []api.Rule{most}})
	want := spell("0a ffffffff 0001" + onesText + onesText + "ffff 00100000 00100000 ff 7fffffffffffffff*3 01 02 00 02 0000ffffffffffff")
	if e != api.OK || !bytes.Equal(b, want) {
		t.Errorf("error %d and\n% x, not\n% x", e, b, want)
	}
}

// R4: the bytes of a message are its own: what is done with some changes no others.
func TestEncodeNewMemory(t *testing.T) {
	for _, s := range samples() {
		first, _ := Encode(s.msg)
		second, _ := Encode(s.msg)
		clear(first[:cap(first)])
		if !bytes.Equal(second, s.bytes) {
			t.Errorf("%s: one result changed another", s.name)
		}
		if third, e := Encode(s.msg); e != api.OK || !bytes.Equal(third, s.bytes) {
			t.Errorf("%s: a result changed the next one", s.name)
		}
	}
}
