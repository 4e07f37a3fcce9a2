package value_test

import (
	"math/big"
	"math/rand"
	"reflect"
	"testing"

	"gatepost/api"
	"gatepost/value"
)

// reckoners are the three calls, with what math/big makes of them.
var reckoners = []struct {
	name  string
	call  func(a, b api.Value) (api.Value, api.Errno)
	exact func(z, a, b *big.Int) *big.Int
}{
	{"Add", value.Add, (*big.Int).Add},
	{"Sub", value.Sub, (*big.Int).Sub},
	{"Mul", value.Mul, (*big.Int).Mul},
}

// reckoned is which kind an answer has by the chapter, 0 where there is none.
func reckoned(name string, a, b api.Value) int {
	switch {
	case a.Kind == 2 && b.Kind == 2:
		return 2
	case a.Kind == 4 && b.Kind == 2 && name != "Mul":
		return 4
	case a.Kind == 4 && b.Kind == 4 && name == "Sub":
		return 2
	}
	return 0
}

// expect is what the chapter says of a call on formed values.
func expect(name string, a, b api.Value, exact *big.Int) (api.Value, api.Errno) {
	kind := reckoned(name, a, b)
	if kind == 0 {
		return api.Value{}, api.ErrType
	}
	if !exact.IsInt64() {
		return api.Value{}, api.ErrOver
	}
	n := exact.Int64()
	if kind == 4 && (n < 0 || n > api.MaxTime) {
		return api.Value{}, api.ErrOver
	}
	return api.Value{Kind: kind, I: n}, api.OK
}

func tryAll(t *testing.T, a, b api.Value) {
	t.Helper()
	for _, r := range reckoners {
		exact := r.exact(new(big.Int), big.NewInt(a.I), big.NewInt(b.I))
		want, fault := expect(r.name, a, b, exact)
		if got, e := r.call(a, b); e != fault || !reflect.DeepEqual(got, want) {
			t.Errorf("%s(%v, %v) is %v, %d, not %v, %d", r.name, a, b, got, e, want, fault)
		}
	}
}

// edgeNumbers are numbers round those where a sum, a product or a time ends to be one.
func edgeNumbers() []int64 {
	var l []int64
	for _, n := range []int64{least, least / 2, least / 3, -api.MaxTime, -3037000499, -1 << 31, 0, 10, 1 << 31, 3037000499, 1 << 32, api.MaxTime, greatest / 3, greatest / 2, greatest} {
		for d := int64(-2); d <= 2; d++ {
			// Going round gives edges of the other end.
			l = append(l, n+d)
		}
	}
	return l
}

// P2.2: numbers with numbers, and times with numbers and times, at all edges.
func TestReckonEdges(t *testing.T) {
	l := edgeNumbers()
	times := []int64{0, 1, 2, 10, 1 << 31, 1 << 39, api.MaxTime - 1, api.MaxTime}
	for _, a := range l {
		for _, b := range l {
			tryAll(t, value.Number(a), value.Number(b))
		}
		for _, b := range times {
			tryAll(t, value.Number(a), at(b))
			tryAll(t, at(b), value.Number(a))
		}
	}
	for _, a := range times {
		for _, b := range times {
			tryAll(t, at(a), at(b))
			tryAll(t, at(a), value.Number(api.MaxTime-a))
			tryAll(t, at(a), value.Number(api.MaxTime-a+1))
			tryAll(t, at(a), value.Number(-a-1))
		}
	}
}

// P2.2: numbers of all sizes, so that products round the edge come up too.
func TestReckonAny(t *testing.T) {
	r := rand.New(rand.NewSource(2))
	for range 100000 {
		a := int64(r.Uint64()) >> r.Intn(64)
		b := int64(r.Uint64()) >> r.Intn(64)
		tryAll(t, value.Number(a), value.Number(b))
	}
}

// P2.2: what the document says in so many words.
func TestReckonKnown(t *testing.T) {
	n := value.Number
	for i, c := range []struct {
		call func(a, b api.Value) (api.Value, api.Errno)
		a, b api.Value
		want api.Value
		e    api.Errno
	}{
		{value.Add, n(1), n(greatest), api.Value{}, api.ErrOver},
		{value.Add, n(-1), n(least), api.Value{}, api.ErrOver},
		{value.Add, n(0), n(greatest), n(greatest), api.OK},
		{value.Add, n(least), n(greatest), n(-1), api.OK},
		{value.Add, at(1), n(2), at(3), api.OK},
		{value.Add, n(2), at(1), api.Value{}, api.ErrType},
		{value.Add, at(1), at(2), api.Value{}, api.ErrType},
		{value.Add, at(api.MaxTime), n(1), api.Value{}, api.ErrOver},
		{value.Add, at(api.MaxTime), n(-api.MaxTime), at(0), api.OK},
		{value.Add, at(5), n(-6), api.Value{}, api.ErrOver},
		{value.Add, at(api.MaxTime), n(greatest), api.Value{}, api.ErrOver},
		{value.Sub, n(0), n(least), api.Value{}, api.ErrOver},
		{value.Sub, n(-1), n(least), n(greatest), api.OK},
		{value.Sub, at(10), n(11), api.Value{}, api.ErrOver},
		{value.Sub, at(10), n(10), at(0), api.OK},
		{value.Sub, at(0), n(least), api.Value{}, api.ErrOver},
		{value.Sub, at(0), n(-api.MaxTime), at(api.MaxTime), api.OK},
		{value.Sub, at(10), at(30), n(-20), api.OK},
		{value.Sub, n(10), at(3), api.Value{}, api.ErrType},
		{value.Mul, n(least), n(-1), api.Value{}, api.ErrOver},
		{value.Mul, n(-1), n(least), api.Value{}, api.ErrOver},
		{value.Mul, n(least), n(1), n(least), api.OK},
		{value.Mul, n(greatest), n(-1), n(-greatest), api.OK},
		{value.Mul, n(0), n(least), n(0), api.OK},
		{value.Mul, at(2), n(3), api.Value{}, api.ErrType},
		{value.Mul, at(2), at(3), api.Value{}, api.ErrType},
	} {
		if got, e := c.call(c.a, c.b); e != c.e || !reflect.DeepEqual(got, c.want) {
			t.Errorf("%d: %v, %d", i, got, e)
		}
	}
}

// P2.2: every two kinds, with all edges of each.
func TestReckonKinds(t *testing.T) {
	l := rising()
	for _, a := range l {
		for _, b := range l {
			tryAll(t, a, b)
		}
	}
}

// P2.2: ErrArg of what isn't formed, on either side, whatever is on the other one.
func TestReckonUnformed(t *testing.T) {
	others := append(rising(), at(-1))
	for name, bad := range unformed() {
		for _, v := range others {
			for _, r := range reckoners {
				left, e := r.call(bad, v)
				right, f := r.call(v, bad)
				if e != api.ErrArg || f != api.ErrArg || !reflect.DeepEqual(left, api.Value{}) || !reflect.DeepEqual(right, api.Value{}) {
					t.Errorf("%s with %s: %d, %d", r.name, name, e, f)
				}
			}
		}
	}
}
