package codec

import (
	"gatepost/api"
	"gatepost/value"
)

// Out writes. A zero Out has no bytes.
type Out struct {
	tape
}

// U8 writes a byte.
func (o *Out) U8(n int) {
	o.unsigned(n, sizeU8)
}

// U16 writes a number of two bytes.
func (o *Out) U16(n int) {
	o.unsigned(n, sizeU16)
}

// U32 writes a number of four bytes.
func (o *Out) U32(n int) {
	o.unsigned(n, sizeU32)
}

// I64 writes a number of eight bytes, one below 0 going round.
func (o *Out) I64(n int64) {
	o.number(uint64(n), sizeI64)
}

// Flag writes a truth.
func (o *Out) Flag(b bool) {
	if b {
		o.U8(1)
	} else {
		o.U8(0)
	}
}

// Text writes a text with its length ahead.
func (o *Out) Text(s string) {
	o.U16(len(s))
	o.put(s)
}

// Raw writes the bytes alone.
func (o *Out) Raw(b []byte) {
	// Asked ahead too, so that no copy is made of what is too long.
	if o.must(len(b) <= o.room()) {
		o.put(string(b))
	}
}

// Value writes a formed value.
func (o *Out) Value(v api.Value) {
	if !o.must(value.Formed(v)) {
		return
	}
	if v.Kind != kindBag {
		o.plain(v)
		return
	}
	o.U8(kindBag)
	o.U8(len(v.L))
	for _, member := range v.L {
		o.plain(member)
	}
}

// End is all that was written.
func (o *Out) End() ([]byte, api.Errno) {
	if o.bad {
		return nil, api.ErrLong
	}
	return []byte(o.bytes), api.OK
}

// plain writes a formed value that is no bag.
func (o *Out) plain(v api.Value) {
	o.U8(v.Kind)
	switch v.Kind {
	case kindTruth:
		o.Flag(v.I == 1)
	case kindNumber, kindTime:
		o.I64(v.I)
	case kindText:
		o.Text(v.S)
	}
}

// unsigned writes a number of that size, if it fits without a sign.
func (o *Out) unsigned(n, size int) {
	if o.must(n >= 0 && uint64(n)>>(8*size) == 0) {
		o.number(uint64(n), size)
	}
}

// number writes the last size bytes of n, the most significant first.
func (o *Out) number(n uint64, size int) {
	b := make([]byte, size)
	for at := range b {
		b[at] = byte(n >> (8 * (size - 1 - at)))
	}
	o.put(string(b))
}

// put writes what there is room for.
func (o *Out) put(more string) {
	if o.must(len(more) <= o.room()) {
		o.bytes += more
	}
}

// room is how many bytes may still be written.
func (o *Out) room() int {
	return api.MaxBytes - len(o.bytes)
}
