package codec

import (
	"gatepost/api"
	"gatepost/value"
)

// In reads. A zero In has no bytes.
type In struct {
	tape
}

// Read is an In of these bytes, from the first one on.
func Read(b []byte) *In {
	return &In{tape: tape{bytes: string(b)}}
}

// U8 reads a byte.
func (i *In) U8() int {
	return int(i.number(sizeU8))
}

// U16 reads a number of two bytes.
func (i *In) U16() int {
	return int(i.number(sizeU16))
}

// U32 reads a number of four bytes.
func (i *In) U32() int {
	return int(i.number(sizeU32))
}

// I64 reads a number of eight bytes, with a sign.
func (i *In) I64() int64 {
	return int64(i.number(sizeI64))
}

// Flag reads a truth.
func (i *In) Flag() bool {
	n := i.U8()
	return i.must(n <= 1) && n == 1
}

// Text reads a text of at most that many bytes.
func (i *In) Text(most int) string {
	length := i.U16()
	if !i.must(length <= min(most, api.MaxBytes)) {
		return ""
	}
	return i.take(length)
}

// Raw reads that many bytes.
func (i *In) Raw(n int) []byte {
	return []byte(i.take(n))
}

// Value reads a formed value.
func (i *In) Value() api.Value {
	v := i.plain(i.U8())
	if v.Kind == kindBag {
		v.L = i.members()
	}
	if !i.must(value.Formed(v)) {
		return api.Value{}
	}
	return v
}

// Over is whether all was read, and nothing went wrong.
func (i *In) Over() bool {
	return !i.bad && i.bytes == ""
}

// members reads a bag's count and values. Whether they may be in one bag is asked of the whole.
func (i *In) members() []api.Value {
	count := i.U8()
	if !i.must(count <= api.MaxBag) {
		return nil
	}
	var l []api.Value
	for range count {
		l = append(l, i.plain(i.U8()))
	}
	return l
}

// plain reads what is behind a kind. Of a bag it reads nothing: no bag has one within, so members doesn't go round, and what has a bag as a member isn't formed.
func (i *In) plain(kind int) api.Value {
	v := api.Value{Kind: kind}
	switch kind {
	case kindTruth:
		if i.Flag() {
			v.I = 1
		}
	case kindNumber, kindTime:
		v.I = i.I64()
	case kindText:
		v.S = i.Text(api.MaxText)
	}
	return v
}

// number reads a number of that size, the most significant byte first.
func (i *In) number(size int) uint64 {
	b := i.take(size)
	var n uint64
	for at := range len(b) {
		n = n<<8 | uint64(b[at])
	}
	return n
}

// take reads the next n bytes, if they are there.
func (i *In) take(n int) string {
	if !i.must(0 <= n && n <= len(i.bytes)) {
		return ""
	}
	b := i.bytes[:n]
	i.bytes = i.bytes[n:]
	return b
}
