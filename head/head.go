// Package head is layer 1, packet headers: see shared/doc/01-head.md.
package head

import (
	"podesta/api"
)

// layout is what a field is called and how many bits it has.
type layout struct {
	name string
	size int
}

var layouts = [api.Fields]layout{
	api.InPort:  {"in", 16},
	api.EthSrc:  {"esrc", 48},
	api.EthDst:  {"edst", 48},
	api.EthType: {"etype", 16},
	api.Vlan:    {"vlan", 12},
	api.Pcp:     {"pcp", 4},
	api.Src:     {"src", 32},
	api.Dst:     {"dst", 32},
	api.Proto:   {"proto", 8},
	api.Tos:     {"tos", 8},
	api.SrcPort: {"sport", 12},
	api.DstPort: {"dport", 12},
}

// known reports whether there is a field with that number.
func known(field int) bool {
	return field >= 0 && field < api.Fields
}

// fits reports whether v is a value of the field, which must be known.
func fits(field int, v uint64) bool {
	return v>>layouts[field].size == 0
}

// Size returns the number of bits of a field, or 0 for an unknown one.
func Size(field int) int {
	if !known(field) {
		return 0
	}
	return layouts[field].size
}

// Name returns the name of a field, or "" for an unknown one.
func Name(field int) string {
	if !known(field) {
		return ""
	}
	return layouts[field].name
}

// Field returns the number of the field with that name.
func Field(name string) (int, bool) {
	for i, l := range layouts {
		if l.name == name {
			return i, true
		}
	}
	return 0, false
}

// Sound reports whether every value of h is within the size of its field.
func Sound(h api.Head) bool {
	for i, v := range h {
		if !fits(i, v) {
			return false
		}
	}
	return true
}

// Mask returns the value of the field whose highest bits, that many, are 1 and whose others are 0.
func Mask(field, bits int) (uint64, bool) {
	if !known(field) || bits < 0 || bits > layouts[field].size {
		return 0, false
	}
	ones := uint64(1)<<bits - 1
	return ones << (layouts[field].size - bits), true
}

// Set returns h with v in the field. The other values of h need not be sound.
func Set(h api.Head, field int, v uint64) (api.Head, api.Errno) {
	if !known(field) {
		return api.Head{}, api.ErrArg
	}
	if !fits(field, v) {
		return api.Head{}, api.ErrRange
	}
	h[field] = v
	return h, api.OK
}

// Compare orders headers by the first field in which they differ.
func Compare(a, b api.Head) int {
	for i := range a {
		if a[i] < b[i] {
			return -1
		}
		if a[i] > b[i] {
			return 1
		}
	}
	return 0
}
