package code

import (
	"bytes"

	"podesta/api"
)

// Decode returns the message whose bytes are b.
func Decode(b []byte) (api.Msg, api.Errno) {
	r := reader{left: b}
	m := r.message()
	if r.short {
		return api.Msg{}, api.ErrEnd
	}
	// A message has no other bytes than those of Encode: this also finds bytes that are left and a Check above 1.
	if again, e := Encode(m); e != api.OK || !bytes.Equal(again, b) {
		return api.Msg{}, api.ErrForm
	}
	return m, api.OK
}

// reader reads the parts of a message, sound or not. Once it is short of bytes, every number is 0.
type reader struct {
	left  []byte
	short bool
}

// word reads a number of so many bytes, the most significant one first.
func (r *reader) word(size int) uint64 {
	if len(r.left) < size {
		r.left, r.short = nil, true
		return 0
	}
	var v uint64
	for _, b := range r.left[:size] {
		v = v<<8 | uint64(b)
	}
	r.left = r.left[size:]
	return v
}

// number reads a number as an int. One of 8 bytes that is too large becomes negative, and so is not sound.
func (r *reader) number(size int) int {
	return int(r.word(size))
}

// message reads a message; its Kind decides what follows, and nothing follows an unknown one.
func (r *reader) message() api.Msg {
	m := api.Msg{Kind: r.number(1), Txn: r.number(4)}
	switch m.Kind {
	case api.MsgMod:
		m.Mod = r.mod()
	case api.MsgError:
		m.E = api.Errno(r.number(1))
	case api.MsgPacket:
		m.Port = r.number(1)
		m.Head = r.head()
	case api.MsgRemoved, api.MsgStats:
		m.Rules = r.rules()
	}
	return m
}

func (r *reader) head() api.Head {
	var h api.Head
	for field := range h {
		h[field] = r.word(8)
	}
	return h
}

func (r *reader) match() api.Cube {
	return api.Cube{Value: r.head(), Care: r.head()}
}

func (r *reader) acts() []api.Act {
	var list []api.Act
	for n := r.number(1); n > 0 && !r.short; n-- {
		list = append(list, api.Act{Kind: r.number(1), Port: r.number(1), Field: r.number(1), Value: r.word(8)})
	}
	return list
}

func (r *reader) mod() api.Mod {
	return api.Mod{
		Kind:  r.number(1),
		Match: r.match(),
		Prio:  r.number(2),
		Idle:  r.number(4),
		Hard:  r.number(4),
		Owner: r.number(1),
		Check: r.number(1) != 0,
		Acts:  r.acts(),
	}
}

func (r *reader) rules() []api.Rule {
	var list []api.Rule
	for n := r.number(2); n > 0 && !r.short; n-- {
		list = append(list, r.rule())
	}
	return list
}

func (r *reader) rule() api.Rule {
	out := api.Rule{Match: r.match(), Prio: r.number(2), Idle: r.number(4), Hard: r.number(4), Owner: r.number(1)}
	var counted [3]int
	for i := range counted {
		counted[i] = r.number(8)
	}
	out.Hits, out.Quiet, out.Age = counted[0], counted[1], counted[2]
	out.Acts = r.acts()
	return out
}
