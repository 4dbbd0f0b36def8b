package code

import (
	"podesta/api"
)

// Encode returns the bytes of the sound message m.
func Encode(m api.Msg) ([]byte, api.Errno) {
	if !Sound(m) {
		return nil, api.ErrForm
	}
	var w writer
	w.number(m.Kind, 1)
	w.number(m.Txn, 4)
	switch m.Kind {
	case api.MsgMod:
		w.mod(m.Mod)
	case api.MsgError:
		w.number(int(m.E), 1)
	case api.MsgPacket:
		w.number(m.Port, 1)
		w.head(m.Head)
	case api.MsgRemoved, api.MsgStats:
		w.rules(m.Rules)
	}
	return w.bytes, api.OK
}

// writer appends the parts of a sound message: each number fits into its bytes.
type writer struct{ bytes []byte }

// word writes v in so many bytes, the most significant one first.
func (w *writer) word(v uint64, size int) {
	for at := size - 1; at >= 0; at-- {
		w.bytes = append(w.bytes, byte(v>>(8*at)))
	}
}

func (w *writer) number(n, size int) {
	w.word(uint64(n), size)
}

func (w *writer) head(h api.Head) {
	for _, v := range h {
		w.word(v, 8)
	}
}

func (w *writer) match(c api.Cube) {
	w.head(c.Value)
	w.head(c.Care)
}

func (w *writer) acts(list []api.Act) {
	w.number(len(list), 1)
	for _, a := range list {
		w.number(a.Kind, 1)
		w.number(a.Port, 1)
		w.number(a.Field, 1)
		w.word(a.Value, 8)
	}
}

func (w *writer) mod(m api.Mod) {
	w.number(m.Kind, 1)
	w.match(m.Match)
	w.number(m.Prio, 2)
	w.number(m.Idle, 4)
	w.number(m.Hard, 4)
	w.number(m.Owner, 1)
	w.flag(m.Check)
	w.acts(m.Acts)
}

func (w *writer) flag(on bool) {
	if on {
		w.number(1, 1)
	} else {
		w.number(0, 1)
	}
}

func (w *writer) rules(list []api.Rule) {
	w.number(len(list), 2)
	for _, r := range list {
		w.rule(r)
	}
}

func (w *writer) rule(r api.Rule) {
	w.match(r.Match)
	w.number(r.Prio, 2)
	w.number(r.Idle, 4)
	w.number(r.Hard, 4)
	w.number(r.Owner, 1)
	for _, n := range [3]int{r.Hits, r.Quiet, r.Age} {
		w.number(n, 8)
	}
	w.acts(r.Acts)
}
