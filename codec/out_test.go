package codec_test

import (
	"bytes"
	"encoding/binary"
	"math"
	"slices"
	"strings"
	"testing"

	"gatepost/api"
	"gatepost/codec"
	"gatepost/value"
)

// wrote is what an Out has behind these calls.
func wrote(calls ...func(o *codec.Out)) ([]byte, api.Errno) {
	var o codec.Out
	for _, call := range calls {
		call(&o)
	}
	return o.End()
}

// raw is a call that writes n bytes that are no noughts.
func raw(n int) func(o *codec.Out) {
	return func(o *codec.Out) { o.Raw(bytes.Repeat([]byte{7}, n)) }
}

func wantBytes(t *testing.T, what string, want []byte, calls ...func(o *codec.Out)) {
	t.Helper()
	if b, e := wrote(calls...); e != api.OK || !bytes.Equal(b, want) {
		t.Errorf("%s: %v, %d, not %v", what, b, e, want)
	}
}

func wantLong(t *testing.T, what string, calls ...func(o *codec.Out)) {
	t.Helper()
	if b, e := wrote(calls...); e != api.ErrLong || len(b) != 0 {
		t.Errorf("%s: %d bytes, %d", what, len(b), e)
	}
}

// P3.1: a zero Out has no bytes, and none come of nothing.
func TestOutZero(t *testing.T) {
	wantBytes(t, "zero", nil)
	wantBytes(t, "no bytes", nil, func(o *codec.Out) { o.Raw(nil); o.Raw([]byte{}) })
}

// unsigned is the calls that write numbers without a sign, and how many bytes each one writes.
var unsigned = []struct {
	name string
	call func(o *codec.Out, n int)
	size int
}{
	{"U8", (*codec.Out).U8, 1},
	{"U16", (*codec.Out).U16, 2},
	{"U32", (*codec.Out).U32, 4},
}

// P3.1: numbers without a sign: those that fit, the most significant byte first, and none else.
func TestOutUnsigned(t *testing.T) {
	numbers := []int{0, 1, 2, 127, 128, 254, 255, 256, 300, 32767, 32768, 65534, 65535, 65536, 0x01020304, math.MaxInt32, math.MaxInt32 + 1, math.MaxUint32 - 1, math.MaxUint32, math.MaxUint32 + 1, math.MaxInt, -1, -255, -256, -65536, -1 << 32, math.MinInt32, math.MinInt}
	for _, u := range unsigned {
		for _, n := range numbers {
			call := func(o *codec.Out) { u.call(o, n) }
			if n < 0 || n >= 1<<(8*u.size) {
				wantLong(t, u.name, call)
				continue
			}
			all := binary.BigEndian.AppendUint64(nil, uint64(n))
			wantBytes(t, u.name, all[8-u.size:], call)
		}
	}
	wantBytes(t, "U16 of 300", []byte{1, 44}, func(o *codec.Out) { o.U16(300) })
	wantBytes(t, "U32 of 70000", []byte{0, 1, 17, 112}, func(o *codec.Out) { o.U32(70000) })
}

// P3.1: numbers with a sign, the least and the greatest too.
func TestOutI64(t *testing.T) {
	for _, n := range []int64{least, least + 1, -1 << 32, -256, -2, -1, 0, 1, 255, 1 << 32, 0x0102030405060708, greatest - 1, greatest} {
		wantBytes(t, "I64", binary.BigEndian.AppendUint64(nil, uint64(n)), func(o *codec.Out) { o.I64(n) })
	}
	wantBytes(t, "I64 of -2", []byte{255, 255, 255, 255, 255, 255, 255, 254}, func(o *codec.Out) { o.I64(-2) })
}

// P3.1: truths are 0 and 1.
func TestOutFlag(t *testing.T) {
	wantBytes(t, "false", []byte{0}, func(o *codec.Out) { o.Flag(false) })
	wantBytes(t, "true", []byte{1}, func(o *codec.Out) { o.Flag(true) })
}

// P3.1: texts with their lengths, up to all the room there is.
func TestOutText(t *testing.T) {
	for _, n := range []int{0, 1, 2, api.MaxText, api.MaxText + 1, 255, 256, 257, api.MaxBytes - 3, api.MaxBytes - 2} {
		s := strings.Repeat("\xff", n)
		wantBytes(t, "a text", join(n>>8, n, s), func(o *codec.Out) { o.Text(s) })
	}
	// 65536 and 65537 have lengths whose last two bytes say 0 and 1.
	for _, n := range []int{api.MaxBytes - 1, api.MaxBytes, api.MaxBytes + 1, 65535, 65536, 65537, 1 << 24} {
		s := strings.Repeat("a", n)
		wantLong(t, "a long text", func(o *codec.Out) { o.Text(s) })
	}
}

// P3.1: Raw has no length ahead.
func TestOutRaw(t *testing.T) {
	wantBytes(t, "some bytes", []byte{0, 1, 255}, func(o *codec.Out) { o.Raw([]byte{0, 1}); o.Raw([]byte{255}) })
	wantBytes(t, "MaxBytes", bytes.Repeat([]byte{7}, api.MaxBytes), raw(api.MaxBytes))
	wantLong(t, "one more", raw(api.MaxBytes+1))
	wantLong(t, "many more", raw(1<<24))
}

// P3.1: a value's bytes stand among others.
func TestOutValue(t *testing.T) {
	for _, k := range manyKnown() {
		wantBytes(t, "a value", join(9, k.b, 9), func(o *codec.Out) { o.U8(9); o.Value(k.v); o.U8(9) })
	}
}

// P3.1: a value that isn't formed is bad.
func TestOutUnformed(t *testing.T) {
	for name, v := range unformed() {
		wantLong(t, name, func(o *codec.Out) { o.Value(v) })
		wantLong(t, name, func(o *codec.Out) { o.U8(1); o.Value(v); o.Value(value.Truth(true)) })
	}
}

// sized is one of each call, with how many bytes it writes.
var sized = []struct {
	name string
	call func(o *codec.Out)
	size int
}{
	{"U8", func(o *codec.Out) { o.U8(255) }, 1},
	{"U16", func(o *codec.Out) { o.U16(65535) }, 2},
	{"U32", func(o *codec.Out) { o.U32(math.MaxUint32) }, 4},
	{"I64", func(o *codec.Out) { o.I64(-1) }, 8},
	{"Flag", func(o *codec.Out) { o.Flag(true) }, 1},
	{"Text of none", func(o *codec.Out) { o.Text("") }, 2},
	{"Text", func(o *codec.Out) { o.Text("hello") }, 7},
	{"Raw", func(o *codec.Out) { o.Raw([]byte("abc")) }, 3},
	{"none", func(o *codec.Out) { o.Value(api.Value{}) }, 1},
	{"truth", func(o *codec.Out) { o.Value(value.Truth(false)) }, 2},
	{"number", func(o *codec.Out) { o.Value(value.Number(1)) }, 9},
	{"text", func(o *codec.Out) { o.Value(value.Text("ab")) }, 5},
	{"time", func(o *codec.Out) { o.Value(at(1)) }, 9},
	{"bag", func(o *codec.Out) { o.Value(bagOf(value.Truth(true))) }, 4},
	{"empty bag", func(o *codec.Out) { o.Value(bagOf()) }, 2},
}

// P3.1: MaxBytes in all, whichever call writes the last ones, and not one more.
func TestOutInAll(t *testing.T) {
	for _, c := range sized {
		for short := range c.size {
			wantLong(t, c.name, raw(api.MaxBytes-short), c.call)
		}
		rest, _ := wrote(c.call)
		wantBytes(t, c.name, join(bytes.Repeat([]byte{7}, api.MaxBytes-c.size), rest), raw(api.MaxBytes-c.size), c.call)
		wantLong(t, c.name, raw(api.MaxBytes-c.size), c.call, func(o *codec.Out) { o.U8(0) })
	}
	wantBytes(t, "full, and no more", bytes.Repeat([]byte{7}, api.MaxBytes), raw(api.MaxBytes), raw(0))
	single := func(n int) func(o *codec.Out) {
		return func(o *codec.Out) {
			for range n {
				o.U8(7)
			}
		}
	}
	wantBytes(t, "byte by byte", bytes.Repeat([]byte{7}, api.MaxBytes), single(api.MaxBytes))
	wantLong(t, "byte by byte", single(api.MaxBytes+1))
}

// P3.1: what is bad stays so, whatever comes behind, and however often it is asked.
func TestOutStaysBad(t *testing.T) {
	spoils := []func(o *codec.Out){
		func(o *codec.Out) { o.U8(256) },
		func(o *codec.Out) { o.U16(-1) },
		func(o *codec.Out) { o.U32(1 << 32) },
		func(o *codec.Out) { o.Text(strings.Repeat("a", api.MaxBytes)) },
		raw(api.MaxBytes + 1),
		func(o *codec.Out) { o.Value(at(-1)) },
	}
	for _, spoil := range spoils {
		for _, c := range sized {
			wantLong(t, c.name, spoil, c.call)
			wantLong(t, c.name, c.call, spoil, c.call, raw(0))
		}
		var o codec.Out
		spoil(&o)
		o.End()
		o.U8(1)
		if b, e := o.End(); e != api.ErrLong || len(b) != 0 {
			t.Error("asked twice:", b, e)
		}
	}
}

// P3.1: calls write one behind the other, and End doesn't end them.
func TestOutEndGoesOn(t *testing.T) {
	var o codec.Out
	var want []byte
	for _, c := range sized {
		c.call(&o)
		alone, _ := wrote(c.call)
		want = append(want, alone...)
		for range 2 {
			if b, e := o.End(); e != api.OK || !bytes.Equal(b, want) {
				t.Fatalf("behind %s: %v, %d, not %v", c.name, b, e, want)
			}
		}
	}
	o.Raw(make([]byte, api.MaxBytes))
	if b, e := o.End(); e != api.ErrLong || len(b) != 0 {
		t.Error(b, e)
	}
}

// R5: what is handed in isn't kept, what is answered is new.
func TestOutMemory(t *testing.T) {
	var o codec.Out
	wide := []byte{1, 2, 3, 4}
	o.Raw(wide[:2])
	o.U8(9)
	if !slices.Equal(wide, []byte{1, 2, 3, 4}) {
		t.Error("written into what was handed in:", wide)
	}
	clear(wide)
	first, _ := o.End()
	_ = append(first, 50)
	clear(first)
	o.U8(8)
	if b, _ := o.End(); !slices.Equal(b, []byte{1, 2, 9, 8}) {
		t.Error(b)
	}
}

// R7: two Outs don't hang on one another, even if one was a copy of the other.
func TestOutCopied(t *testing.T) {
	var a codec.Out
	a.U8(1)
	a.Text("abc")
	b := a
	a.U8(2)
	b.U8(3)
	c := b
	c.U8(256)
	for _, x := range []struct {
		o    *codec.Out
		last int
	}{{&a, 2}, {&b, 3}} {
		if got, e := x.o.End(); e != api.OK || !bytes.Equal(got, join(1, 0, 3, "abc", x.last)) {
			t.Error(got, e)
		}
	}
	if got, e := c.End(); e != api.ErrLong || len(got) != 0 {
		t.Error(got, e)
	}
}
