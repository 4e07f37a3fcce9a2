package codec_test

import (
	"bytes"
	"encoding/binary"
	"math"
	"math/rand"
	"reflect"
	"slices"
	"strings"
	"testing"

	"gatepost/api"
	"gatepost/codec"
	"gatepost/value"
)

// isBad is whether an In is bad: it isn't over, and reads as zero, whatever is asked.
func isBad(i *codec.In) bool {
	return !i.Over() &&
		i.U8() == 0 && i.U16() == 0 && i.U32() == 0 && i.I64() == 0 && !i.Flag() &&
		i.Text(api.MaxBytes) == "" && i.Text(-1) == "" &&
		len(i.Raw(0)) == 0 && len(i.Raw(1)) == 0 && len(i.Raw(-1)) == 0 &&
		reflect.DeepEqual(i.Value(), api.Value{}) && !i.Over()
}

// readers is each call, with bytes that it reads whole and what they are.
var readers = []struct {
	name string
	call func(i *codec.In) any
	b    []byte
	want any
	zero any
}{
	{"U8", func(i *codec.In) any { return i.U8() }, []byte{200}, 200, 0},
	{"U8 greatest", func(i *codec.In) any { return i.U8() }, []byte{255}, 255, 0},
	{"U16", func(i *codec.In) any { return i.U16() }, []byte{1, 44}, 300, 0},
	{"U16 greatest", func(i *codec.In) any { return i.U16() }, []byte{255, 255}, 65535, 0},
	{"U32", func(i *codec.In) any { return i.U32() }, []byte{1, 2, 3, 4}, 0x01020304, 0},
	{"U32 greatest", func(i *codec.In) any { return i.U32() }, []byte{255, 255, 255, 255}, math.MaxUint32, 0},
	{"I64", func(i *codec.In) any { return i.I64() }, []byte{1, 2, 3, 4, 5, 6, 7, 8}, int64(0x0102030405060708), int64(0)},
	{"I64 -2", func(i *codec.In) any { return i.I64() }, []byte{255, 255, 255, 255, 255, 255, 255, 254}, int64(-2), int64(0)},
	{"I64 least", func(i *codec.In) any { return i.I64() }, []byte{128, 0, 0, 0, 0, 0, 0, 0}, int64(least), int64(0)},
	{"I64 greatest", func(i *codec.In) any { return i.I64() }, []byte{127, 255, 255, 255, 255, 255, 255, 255}, int64(greatest), int64(0)},
	{"Flag false", func(i *codec.In) any { return i.Flag() }, []byte{0}, false, false},
	{"Flag true", func(i *codec.In) any { return i.Flag() }, []byte{1}, true, false},
	{"Text of none", func(i *codec.In) any { return i.Text(0) }, []byte{0, 0}, "", ""},
	{"Text", func(i *codec.In) any { return i.Text(3) }, join(0, 3, "a\xff\x00"), "a\xff\x00", ""},
	{"Raw", func(i *codec.In) any { return string(i.Raw(3)) }, []byte("abc"), "abc", ""},
	{"truth", func(i *codec.In) any { return i.Value() }, []byte{1, 1}, value.Truth(true), api.Value{}},
	{"number", func(i *codec.In) any { return i.Value() }, join(2, 0, 0, 0, 0, 0, 0, 0, 9), value.Number(9), api.Value{}},
	{"text", func(i *codec.In) any { return i.Value() }, join(3, 0, 2, "ab"), value.Text("ab"), api.Value{}},
	{"bag", func(i *codec.In) any { return i.Value() }, []byte{5, 2, 1, 0, 1, 1}, bagOf(value.Truth(false), value.Truth(true)), api.Value{}},
}

// P3.2: each call reads its bytes whole; cut short, it is bad, and zero.
func TestInEach(t *testing.T) {
	for _, c := range readers {
		i := codec.Read(c.b)
		if i.Over() {
			t.Errorf("%s: over ahead of it", c.name)
		}
		if got := c.call(i); !reflect.DeepEqual(got, c.want) || !i.Over() {
			t.Errorf("%s: %v, over %v", c.name, got, i.Over())
		}
		if more := codec.Read(join(c.b, 7)); !reflect.DeepEqual(c.call(more), c.want) || more.Over() || more.U8() != 7 || !more.Over() {
			t.Errorf("%s: with a byte behind", c.name)
		}
		for n := range c.b {
			short := codec.Read(c.b[:n])
			if got := c.call(short); !reflect.DeepEqual(got, c.zero) || !isBad(short) {
				t.Errorf("%s: cut at %d: %v", c.name, n, got)
			}
		}
	}
}

// P3.2: calls read one behind the other.
func TestInOneBehindTheOther(t *testing.T) {
	r := rand.New(rand.NewSource(4))
	for range 200 {
		var all []byte
		order := r.Perm(len(readers))
		for _, k := range order {
			all = append(all, readers[k].b...)
		}
		i := codec.Read(all)
		for at, k := range order {
			c := readers[k]
			if got := c.call(i); !reflect.DeepEqual(got, c.want) || i.Over() != (at == len(order)-1) {
				t.Fatalf("%s: %v", c.name, got)
			}
		}
	}
}

// P3.2: numbers of all sizes, as the library reads them.
func TestInNumbers(t *testing.T) {
	r := rand.New(rand.NewSource(5))
	for range 10000 {
		b := binary.BigEndian.AppendUint64(nil, r.Uint64()>>r.Intn(64))
		if codec.Read(b).U8() != int(b[0]) || codec.Read(b).U16() != int(binary.BigEndian.Uint16(b)) || codec.Read(b).U32() != int(binary.BigEndian.Uint32(b)) || codec.Read(b).I64() != int64(binary.BigEndian.Uint64(b)) {
			t.Fatal(b)
		}
	}
}

// P3.2: nothing is over at once; there is nothing to read of it.
func TestInNothing(t *testing.T) {
	for _, b := range [][]byte{nil, {}} {
		i := codec.Read(b)
		if !i.Over() || len(i.Raw(0)) != 0 || !i.Over() {
			t.Error("nothing isn't over")
		}
		if i.U8() != 0 || !isBad(i) {
			t.Error("a byte of nothing")
		}
	}
	var zero codec.In
	if !zero.Over() || zero.I64() != 0 || !isBad(&zero) {
		t.Error("a zero In")
	}
}

// P3.2: a truth is the byte 0 or 1, no other one.
func TestInFlag(t *testing.T) {
	for n := 2; n < 256; n++ {
		i := codec.Read([]byte{byte(n), 1, 1, 1, 1, 1, 1, 1, 1, 1, 1})
		if i.Flag() || !isBad(i) {
			t.Errorf("a truth of %d", n)
		}
	}
}

// P3.2: a text's length is at most what is asked for, and at most MaxBytes; the bytes are there.
func TestInText(t *testing.T) {
	for _, n := range []int{0, 1, 2, 255, 256, api.MaxBytes - 3, api.MaxBytes - 2, api.MaxBytes - 1, api.MaxBytes} {
		s := strings.Repeat("\xfe", n)
		b := join(n>>8, n, s, 1)
		for _, most := range []int{n, n + 1, api.MaxBytes, api.MaxBytes + 1, math.MaxInt} {
			if i := codec.Read(b); i.Text(most) != s || i.U8() != 1 || !i.Over() {
				t.Errorf("%d bytes, %d at most", n, most)
			}
		}
		for _, most := range []int{n - 1, -1, math.MinInt} {
			if i := codec.Read(b); i.Text(most) != "" || !isBad(i) {
				t.Errorf("%d bytes, but %d at most", n, most)
			}
		}
		for _, there := range []int{2 + n - 1, 2 + n/2, 1} {
			if there >= 2+n {
				continue
			}
			if i := codec.Read(b[:there]); i.Text(math.MaxInt) != "" || !isBad(i) {
				t.Errorf("%d bytes, but %d are there", n, there)
			}
		}
	}
	for _, n := range []int{api.MaxBytes + 1, 2 * api.MaxBytes, 65535} {
		b := join(n>>8, n, strings.Repeat("a", n))
		for _, most := range []int{n, api.MaxBytes, math.MaxInt} {
			if i := codec.Read(b); i.Text(most) != "" || !isBad(i) {
				t.Errorf("%d bytes, %d at most", n, most)
			}
		}
	}
}

// P3.2: Raw reads none, some, or all that is left, and no more; there may be more than MaxBytes.
func TestInRaw(t *testing.T) {
	for _, size := range []int{0, 1, 5, api.MaxBytes, api.MaxBytes + 1, 100000} {
		b := make([]byte, size)
		rand.New(rand.NewSource(6)).Read(b)
		for _, n := range []int{0, 1, size / 2, size - 1, size} {
			if n < 0 || n > size {
				continue
			}
			i := codec.Read(b)
			if !bytes.Equal(i.Raw(n), b[:n]) || i.Over() != (n == size) || !bytes.Equal(i.Raw(size-n), b[n:]) || !i.Over() {
				t.Errorf("%d of %d", n, size)
			}
		}
		for _, n := range []int{-1, size + 1, math.MinInt, math.MaxInt} {
			if i := codec.Read(b); len(i.Raw(n)) != 0 || !isBad(i) {
				t.Errorf("%d of %d", n, size)
			}
		}
	}
}

// P3.2: a value among other bytes, of all kinds and edges; cut short anywhere it is bad.
func TestInValue(t *testing.T) {
	for _, k := range manyKnown() {
		i := codec.Read(join(9, k.b, 9))
		if i.U8() != 9 || !reflect.DeepEqual(i.Value(), k.v) || i.U8() != 9 || !i.Over() {
			t.Errorf("%v isn't read", k.v)
		}
		for n := range k.b {
			i := codec.Read(k.b[:n])
			if v := i.Value(); !reflect.DeepEqual(v, api.Value{}) || !isBad(i) {
				t.Errorf("%v cut at %d is %v", k.v, n, v)
			}
		}
	}
}

// P3.2: what isn't a formed value's is bad, whatever is behind it.
func TestInNoValue(t *testing.T) {
	for name, b := range noValues() {
		if len(b) == 0 {
			// What is behind nothing may be a value's.
			continue
		}
		for _, more := range [][]byte{nil, {0}, bytes.Repeat([]byte{1}, 20)} {
			i := codec.Read(slices.Concat(b, more))
			if v := i.Value(); !reflect.DeepEqual(v, api.Value{}) || !isBad(i) {
				t.Errorf("%s is %v", name, v)
			}
		}
	}
}

// P3.2: what is bad reads as zero from then on, though good bytes are left.
func TestInStaysBad(t *testing.T) {
	spoils := map[string]func(i *codec.In){
		"Flag":  func(i *codec.In) { i.Flag() },
		"Text":  func(i *codec.In) { i.Text(3) },
		"Raw":   func(i *codec.In) { i.Raw(-1) },
		"more":  func(i *codec.In) { i.Raw(1000) },
		"Value": func(i *codec.In) { i.Value() },
	}
	for name, spoil := range spoils {
		for _, c := range readers {
			i := codec.Read(join(6, 6, c.b, c.b))
			spoil(i)
			if got := c.call(i); !reflect.DeepEqual(got, c.zero) || !isBad(i) {
				t.Errorf("%s behind a bad %s: %v", c.name, name, got)
			}
		}
	}
}

// P3.2: what Out writes, In reads.
func TestInReadsOut(t *testing.T) {
	r := rand.New(rand.NewSource(7))
	for range 2000 {
		var o codec.Out
		var asks []func(i *codec.In) bool
		for range r.Intn(12) {
			asks = append(asks, writeAny(r, &o))
		}
		b, e := o.End()
		if e != api.OK {
			continue
		}
		i := codec.Read(b)
		for _, ask := range asks {
			if !ask(i) {
				t.Fatal(b)
			}
		}
		if !i.Over() {
			t.Fatal("not over:", b)
		}
	}
}

// writeAny writes something, and is the question whether it is read so.
func writeAny(r *rand.Rand, o *codec.Out) func(i *codec.In) bool {
	n := int64(r.Uint64()) >> r.Intn(64)
	some := make([]byte, r.Intn(200))
	r.Read(some)
	switch r.Intn(8) {
	case 0:
		o.U8(int(n & 255))
		return func(i *codec.In) bool { return i.U8() == int(n&255) }
	case 1:
		o.U16(int(n & 65535))
		return func(i *codec.In) bool { return i.U16() == int(n&65535) }
	case 2:
		o.U32(int(n & math.MaxUint32))
		return func(i *codec.In) bool { return i.U32() == int(n&math.MaxUint32) }
	case 3:
		o.I64(n)
		return func(i *codec.In) bool { return i.I64() == n }
	case 4:
		o.Flag(n < 0)
		return func(i *codec.In) bool { return i.Flag() == (n < 0) }
	case 5:
		o.Text(string(some))
		return func(i *codec.In) bool { return i.Text(len(some)) == string(some) }
	case 6:
		o.Raw(some)
		return func(i *codec.In) bool { return bytes.Equal(i.Raw(len(some)), some) }
	}
	v := anyValue(r, r.Intn(6))
	o.Value(v)
	return func(i *codec.In) bool { return reflect.DeepEqual(i.Value(), v) }
}

// R5: what is handed in is left and not kept, what is answered is new.
func TestInMemory(t *testing.T) {
	b := []byte("abcdefgh")
	i := codec.Read(b[:6])
	clear(b)
	first := i.Raw(2)
	if string(first) != "ab" {
		t.Error("the bytes are kept:", first)
	}
	_ = append(first, 0, 0, 0)
	clear(first)
	if string(i.Raw(4)) != "cdef" || !i.Over() {
		t.Error("an answer is the In's memory")
	}
	c := []byte("xyz")
	codec.Read(c).Raw(3)[0] = 'q'
	if string(c) != "xyz" {
		t.Error("an answer is the argument's memory")
	}
}

// R7: two Ins don't hang on one another, even if one was a copy of the other.
func TestInCopied(t *testing.T) {
	i := codec.Read([]byte{1, 2, 3})
	i.U8()
	j := *i
	if i.U16() != 0x0203 || !i.Over() || j.Over() || j.U8() != 2 || j.U8() != 3 || !j.Over() {
		t.Error("a copy reads with the other one")
	}
	k := j
	k.U8()
	if !j.Over() || !isBad(&k) {
		t.Error("a copy goes bad with the other one")
	}
}
