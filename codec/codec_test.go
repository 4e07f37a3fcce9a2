package codec_test

import (
	"bytes"
	"math"
	"math/rand"
	"reflect"
	"slices"
	"strings"
	"testing"

	"gatepost/api"
	"gatepost/codec"
	"gatepost/value"
)

const (
	least    = math.MinInt64
	greatest = math.MaxInt64
)

// at is the time n.
func at(n int64) api.Value {
	return api.Value{Kind: 4, I: n}
}

// bagOf is a bag written out, whether it may be or not.
func bagOf(l ...api.Value) api.Value {
	return api.Value{Kind: 5, L: l}
}

// count is n numbers from 1 on.
func count(n int) []api.Value {
	var l []api.Value
	for i := range n {
		l = append(l, value.Number(int64(i+1)))
	}
	return l
}

// fullTexts is n texts of the greatest size, rising.
func fullTexts(n int) []api.Value {
	var l []api.Value
	for i := range n {
		l = append(l, value.Text(string(rune('a'+i))+strings.Repeat("z", api.MaxText-1)))
	}
	return l
}

// knot is a bag that holds itself.
func knot() api.Value {
	l := make([]api.Value, 1)
	l[0] = bagOf(l...)
	return l[0]
}

// join is bytes, texts' bytes and lists of them, one behind the other: so that expected bytes can be written out.
func join(parts ...any) []byte {
	b := []byte{}
	for _, p := range parts {
		switch x := p.(type) {
		case int:
			b = append(b, byte(x))
		case string:
			b = append(b, x...)
		case []byte:
			b = append(b, x...)
		}
	}
	return b
}

// known is a formed value and its bytes, by the chapter's words.
type known struct {
	v api.Value
	b []byte
}

func manyKnown() []known {
	n, s := value.Number, value.Text
	full := strings.Repeat("z", api.MaxText)
	l := []known{
		{api.Value{}, join(0)},
		{value.Truth(false), join(1, 0)},
		{value.Truth(true), join(1, 1)},
		{n(-1), join(2, 255, 255, 255, 255, 255, 255, 255, 255)},
		{n(0), join(2, 0, 0, 0, 0, 0, 0, 0, 0)},
		{n(1), join(2, 0, 0, 0, 0, 0, 0, 0, 1)},
		{n(0x0102030405060708), join(2, 1, 2, 3, 4, 5, 6, 7, 8)},
		{n(least), join(2, 128, 0, 0, 0, 0, 0, 0, 0)},
		{n(greatest), join(2, 127, 255, 255, 255, 255, 255, 255, 255)},
		{s(""), join(3, 0, 0)},
		{s("\x00"), join(3, 0, 1, 0)},
		{s("é\xff"), join(3, 0, 3, 0xc3, 0xa9, 255)},
		{s(full), join(3, 0, 64, full)},
		{at(0), join(4, 0, 0, 0, 0, 0, 0, 0, 0)},
		{at(258), join(4, 0, 0, 0, 0, 0, 0, 1, 2)},
		{at(api.MaxTime), join(4, 0, 0, 1, 0, 0, 0, 0, 0)},
		{bagOf(), join(5, 0)},
		{bagOf(value.Truth(true)), join(5, 1, 1, 1)},
		{bagOf(value.Truth(false), value.Truth(true)), join(5, 2, 1, 0, 1, 1)},
		{bagOf(n(-1), n(1)), join(5, 2, 2, 255, 255, 255, 255, 255, 255, 255, 255, 2, 0, 0, 0, 0, 0, 0, 0, 1)},
		{bagOf(s(""), s("a"), s("b")), join(5, 3, 3, 0, 0, 3, 0, 1, "a", 3, 0, 1, "b")},
		{bagOf(at(1)), join(5, 1, 4, 0, 0, 0, 0, 0, 0, 0, 1)},
	}
	numbers, texts := join(5, 16), join(5, 16)
	for i := range 16 {
		numbers = join(numbers, 2, 0, 0, 0, 0, 0, 0, 0, i+1)
		texts = join(texts, 3, 0, 64, 'a'+i, full[1:])
	}
	return append(l, known{bagOf(count(16)...), numbers}, known{bagOf(fullTexts(16)...), texts})
}

// unformed is what is no value, each for one reason.
func unformed() map[string]api.Value {
	n := value.Number(1)
	full := strings.Repeat("z", api.MaxText)
	return map[string]api.Value{
		"none with I":        {I: 1},
		"none with S":        {S: "a"},
		"none with L":        {L: count(1)},
		"truth 2":            {Kind: 1, I: 2},
		"truth -1":           {Kind: 1, I: -1},
		"truth with S":       {Kind: 1, I: 1, S: "a"},
		"number with S":      {Kind: 2, I: 1, S: "a"},
		"number with L":      {Kind: 2, I: 1, L: count(1)},
		"text with I":        {Kind: 3, I: 1, S: "a"},
		"text too long":      {Kind: 3, S: full + "z"},
		"text much too long": {Kind: 3, S: strings.Repeat(full, 1025)},
		"time -1":            at(-1),
		"time above":         at(api.MaxTime + 1),
		"bag with I":         {Kind: 5, I: 1, L: count(1)},
		"bag with S":         {Kind: 5, S: "a"},
		"bag of 17":          bagOf(count(17)...),
		"bag of 257":         bagOf(count(257)...),
		"bag falling":        bagOf(value.Number(2), n),
		"bag twice":          bagOf(n, n),
		"bag of two kinds":   bagOf(value.Truth(true), n),
		"bag of none":        bagOf(api.Value{}),
		"bag of empty bag":   bagOf(bagOf()),
		"bag of bag":         bagOf(bagOf(n)),
		"bag of itself":      knot(),
		"kind 6":             {Kind: 6},
		"kind -1":            {Kind: -1},
		"kind 258":           {Kind: 258, I: 1},
		"kind greatest":      {Kind: greatest},
		"kind least":         {Kind: least},
	}
}

// anyValue is a formed value: small ones and edges, so that equal ones come up too.
func anyValue(r *rand.Rand, kind int) api.Value {
	switch kind {
	case 1:
		return value.Truth(r.Intn(2) == 1)
	case 2:
		return value.Number(int64(r.Uint64()) >> r.Intn(64))
	case 3:
		b := make([]byte, r.Intn(api.MaxText+1)>>r.Intn(8))
		r.Read(b)
		return value.Text(string(b))
	case 4:
		return at(r.Int63n(api.MaxTime+1) >> r.Intn(41))
	case 5:
		var l []api.Value
		within := 1 + r.Intn(4)
		for range r.Intn(api.MaxBag + 1) {
			l = append(l, anyValue(r, within))
		}
		b, _ := value.Bag(l...)
		return b
	}
	return api.Value{}
}

// mustEncode is a formed value's bytes.
func mustEncode(t *testing.T, v api.Value) []byte {
	t.Helper()
	b, e := codec.Encode(v)
	if e != api.OK {
		t.Fatalf("Encode(%v): %d", v, e)
	}
	return b
}

// P3.3: each kind's bytes, and the value of them.
func TestKnown(t *testing.T) {
	for _, k := range manyKnown() {
		if b, e := codec.Encode(k.v); e != api.OK || !bytes.Equal(b, k.b) {
			t.Errorf("Encode(%v) is %v, %d, not %v", k.v, b, e, k.b)
		}
		if v, e := codec.Decode(k.b); e != api.OK || !reflect.DeepEqual(v, k.v) {
			t.Errorf("Decode(%v) is %v, %d, not %v", k.b, v, e, k.v)
		}
	}
}

// P3.3: a nil list and an empty one have the same bytes.
func TestEncodeEmpty(t *testing.T) {
	for _, k := range manyKnown() {
		if len(k.v.L) == 0 {
			k.v.L = make([]api.Value, 0, 3)
			if b, e := codec.Encode(k.v); e != api.OK || !bytes.Equal(b, k.b) {
				t.Errorf("Encode(%v) with an empty list is %v, %d", k.v, b, e)
			}
		}
	}
}

// P3.3: ErrArg of what isn't formed, even where it would be too long as well.
func TestEncodeUnformed(t *testing.T) {
	for name, v := range unformed() {
		if b, e := codec.Encode(v); e != api.ErrArg || len(b) != 0 {
			t.Errorf("Encode of %s is %v, %d", name, b, e)
		}
	}
}

// noValues is bytes that no formed value has.
func noValues() map[string][]byte {
	one := join(2, 0, 0, 0, 0, 0, 0, 0, 1)
	two := join(2, 0, 0, 0, 0, 0, 0, 0, 2)
	long := strings.Repeat("z", api.MaxText+1)
	seventeen := join(5, 17)
	for i := range 17 {
		seventeen = join(seventeen, 2, 0, 0, 0, 0, 0, 0, 0, i)
	}
	return map[string][]byte{
		"nothing":               {},
		"kind 6":                {6},
		"kind 255":              {255},
		"kind 6 and eight":      join(6, one[1:]),
		"truth 2":               {1, 2},
		"truth 255":             {1, 255},
		"text too long":         join(3, 0, 65, long),
		"text of MaxBytes":      join(3, 16, 0, strings.Repeat("z", api.MaxBytes)),
		"text of 65535":         join(3, 255, 255, strings.Repeat("z", 65535)),
		"time above":            join(4, 0, 0, 1, 0, 0, 0, 0, 1),
		"time -1":               join(4, 255, 255, 255, 255, 255, 255, 255, 255),
		"time least":            join(4, 128, 0, 0, 0, 0, 0, 0, 0),
		"bag falling":           join(5, 2, two, one),
		"bag of truths falling": join(5, 2, 1, 1, 1, 0),
		"bag of texts falling":  join(5, 2, 3, 0, 1, "b", 3, 0, 1, "a"),
		"bag twice":             join(5, 2, one, one),
		"bag twice late":        join(5, 3, one, two, two),
		"bag of two kinds":      join(5, 2, 1, 1, one),
		"bag of none":           join(5, 1, 0),
		"bag of nones":          join(5, 2, 0, 0),
		"bag of none, number":   join(5, 2, 0, one),
		"bag of empty bag":      join(5, 1, 5, 0),
		"bag of bare bag":       join(5, 1, 5),
		"bag of bag":            join(5, 1, 5, 1, one),
		"bag of number, bag":    join(5, 2, one, 5, 0),
		"bag of kind 6":         join(5, 1, 6),
		"bag of bad truth":      join(5, 1, 1, 2),
		"bag of bad time":       join(5, 1, 4, 0, 0, 1, 0, 0, 0, 0, 1),
		"bag of long text":      join(5, 1, 3, 0, 65, long),
		"bag of 17":             seventeen,
		"bag of 17 of 16":       join(5, 17, seventeen[2:2+16*9]),
		"bag of 255":            {5, 255},
		"bags all the way":      bytes.Repeat([]byte{5, 1}, 100000),
	}
}

// P3.3: ErrForm of bytes that no formed value has.
func TestDecodeNone(t *testing.T) {
	for name, b := range noValues() {
		if v, e := codec.Decode(b); e != api.ErrForm || !reflect.DeepEqual(v, api.Value{}) {
			t.Errorf("%s is %v, %d", name, v, e)
		}
	}
	if v, e := codec.Decode(nil); e != api.ErrForm || !reflect.DeepEqual(v, api.Value{}) {
		t.Errorf("nil is %v, %d", v, e)
	}
}

// P3.3: a value's bytes cut short anywhere, or with any byte behind, are no value's.
func TestDecodeCutAndMore(t *testing.T) {
	for _, k := range manyKnown() {
		for n := range k.b {
			if v, e := codec.Decode(k.b[:n]); e != api.ErrForm || !reflect.DeepEqual(v, api.Value{}) {
				t.Errorf("%v cut at %d is %v, %d", k.v, n, v, e)
			}
		}
		for _, more := range [][]byte{{0}, {1}, {255}, {0, 0}, k.b} {
			if v, e := codec.Decode(slices.Concat(k.b, more)); e != api.ErrForm || !reflect.DeepEqual(v, api.Value{}) {
				t.Errorf("%v with %v behind is %v, %d", k.v, more, v, e)
			}
		}
	}
}

// P3.3, P3.4: what is encoded is decoded as it was.
func TestThereAndBack(t *testing.T) {
	r := rand.New(rand.NewSource(1))
	for range 20000 {
		v := anyValue(r, r.Intn(6))
		if got, e := codec.Decode(mustEncode(t, v)); e != api.OK || !reflect.DeepEqual(got, v) {
			t.Fatalf("%v came back as %v, %d", v, got, e)
		}
	}
}

// sameBytes is whether b is no value's, or just those of what it is decoded to.
func sameBytes(b []byte) bool {
	v, e := codec.Decode(b)
	if e == api.ErrForm {
		return true
	}
	again, f := codec.Encode(v)
	return e == api.OK && f == api.OK && value.Formed(v) && bytes.Equal(again, b)
}

// P3.3: of all short bytes, whatever is decoded has just these.
func TestBackAndThereShort(t *testing.T) {
	found := 0
	for n := range 1 << 16 {
		for _, b := range [][]byte{{byte(n)}, {byte(n >> 8), byte(n)}, {5, byte(n >> 8), byte(n)}, {5, 1, byte(n >> 8), byte(n)}, {5, 2, 1, byte(n >> 8), 1, byte(n)}, {3, 0, byte(n >> 8), byte(n)}} {
			if !sameBytes(b) {
				t.Errorf("%v has other bytes", b)
			}
		}
		if _, e := codec.Decode([]byte{byte(n >> 8), byte(n)}); e == api.OK {
			found++
		}
	}
	// Two bytes: both truths, and the empty bag.
	if found != 3 {
		t.Errorf("%d values of two bytes", found)
	}
}

// P3.3: of values' bytes with one changed, left out or put in, whatever is decoded has just these.
func TestBackAndThereChanged(t *testing.T) {
	r := rand.New(rand.NewSource(2))
	for range 50000 {
		b := mustEncode(t, anyValue(r, r.Intn(6)))
		where := r.Intn(len(b))
		switch r.Intn(3) {
		case 0:
			b[where] = byte(r.Intn(256) >> r.Intn(8))
		case 1:
			b = slices.Delete(b, where, where+1)
		case 2:
			b = slices.Insert(b, where, byte(r.Intn(6)))
		}
		if !sameBytes(b) {
			t.Fatalf("%v has other bytes", b)
		}
	}
}

// P3.4: no two values have the same bytes, nor does one's begin another's.
func TestNoTwoAlike(t *testing.T) {
	r := rand.New(rand.NewSource(3))
	var l []api.Value
	for _, k := range manyKnown() {
		l = append(l, k.v)
	}
	for range 500 {
		l = append(l, anyValue(r, r.Intn(6)))
	}
	var all [][]byte
	for _, v := range l {
		all = append(all, mustEncode(t, v))
	}
	for i, a := range l {
		for j, b := range l {
			if same := value.Order(a, b) == 0; same != bytes.Equal(all[i], all[j]) || !same && bytes.HasPrefix(all[i], all[j]) {
				t.Errorf("%v and %v: %v and %v", a, b, all[i], all[j])
			}
		}
	}
}

// R5: what is handed in is left and not kept, what is answered is new.
func TestMemory(t *testing.T) {
	room := count(8)
	b := mustEncode(t, bagOf(room[:4]...))
	if !reflect.DeepEqual(room, count(8)) {
		t.Error("Encode changed the bag")
	}
	wide := append(b, 77, 78)
	before := slices.Clone(wide)
	first, _ := codec.Decode(wide[:len(b)])
	if !bytes.Equal(wide, before) {
		t.Error("Decode changed the bytes")
	}
	second, _ := codec.Decode(wide[:len(b)])
	first.L[0] = value.Number(99)
	text := []byte{3, 0, 1, 'a'}
	v, _ := codec.Decode(text)
	text[3] = 'b'
	clear(wide)
	if !reflect.DeepEqual(second, bagOf(count(4)...)) || v.S != "a" {
		t.Error("Decode's answer hangs on other memory")
	}
}
