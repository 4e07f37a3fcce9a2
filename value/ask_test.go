package value_test

import (
	"reflect"
	"slices"
	"testing"

	"gatepost/api"
	"gatepost/value"
)

// P2.2: whether a value is in a bag, of all kinds, at the bag's ends and between.
func TestIn(t *testing.T) {
	text := value.Text
	for _, c := range []struct {
		bag   api.Value
		ins   []api.Value
		outs  []api.Value
		other []api.Value
	}{
		{bagOf(numbers(least, -1, 3, greatest)...), numbers(least, -1, 3, greatest), numbers(least+1, 0, 4, greatest-1), []api.Value{at(3), text("3"), value.Truth(true)}},
		{bagOf(count(16)...), count(16), numbers(0, 17, -1), []api.Value{at(3), text(""), value.Truth(false)}},
		{bagOf(value.Truth(true)), []api.Value{value.Truth(true)}, []api.Value{value.Truth(false)}, []api.Value{value.Number(1), at(1), text("")}},
		{bagOf(text(""), text("ab")), []api.Value{text(""), text("ab")}, []api.Value{text("a"), text("abc"), text("b")}, []api.Value{value.Number(0), at(0), value.Truth(false)}},
		{bagOf(at(0), at(api.MaxTime)), []api.Value{at(0), at(api.MaxTime)}, []api.Value{at(1), at(api.MaxTime - 1)}, []api.Value{value.Number(0), text(""), value.Truth(false)}},
		{bagOf(), nil, []api.Value{value.Number(0), text(""), at(0), value.Truth(false)}, nil},
	} {
		for _, v := range c.ins {
			if in, e := value.In(v, c.bag); !in || e != api.OK {
				t.Errorf("%v in %v: %v, %d", v, c.bag, in, e)
			}
		}
		for _, v := range c.outs {
			if in, e := value.In(v, c.bag); in || e != api.OK {
				t.Errorf("%v in %v: %v, %d", v, c.bag, in, e)
			}
		}
		for _, v := range append(c.other, api.Value{}, bagOf(), c.bag) {
			if in, e := value.In(v, c.bag); in || e != api.ErrType {
				t.Errorf("%v in %v: %v, %d", v, c.bag, in, e)
			}
		}
	}
}

// P2.2: In by its words, of every two values.
func TestInAll(t *testing.T) {
	for _, v := range rising() {
		for _, b := range rising() {
			want, fault := false, api.OK
			if b.Kind != 5 || v.Kind == 0 || v.Kind == 5 || slices.ContainsFunc(b.L, func(x api.Value) bool { return x.Kind != v.Kind }) {
				fault = api.ErrType
			} else {
				want = slices.ContainsFunc(b.L, func(x api.Value) bool { return reflect.DeepEqual(x, v) })
			}
			if in, e := value.In(v, b); in != want || e != fault {
				t.Errorf("%v in %v: %v, %d", v, b, in, e)
			}
		}
	}
}

// P2.2: ErrArg of what isn't formed is asked ahead of ErrType.
func TestInUnformed(t *testing.T) {
	for name, bad := range unformed() {
		for _, v := range append(rising(), at(-1)) {
			in, e := value.In(bad, v)
			on, f := value.In(v, bad)
			if in || on || e != api.ErrArg || f != api.ErrArg {
				t.Errorf("In with %s: %d, %d", name, e, f)
			}
		}
	}
}

// compares is what each op says of a value ahead, the same, and behind.
var compares = []struct {
	op                  string
	ahead, same, behind bool
}{
	{"==", false, true, false},
	{"!=", true, false, true},
	{"<", true, false, false},
	{"<=", true, true, false},
	{">", false, false, true},
	{">=", false, true, true},
}

// P2.3: each op on every two values: by their places in the rising list, or ErrType.
func TestCompare(t *testing.T) {
	l := rising()
	for _, c := range compares {
		for i, a := range l {
			for j, b := range l {
				want, fault := c.same, api.OK
				if i < j {
					want = c.ahead
				}
				if i > j {
					want = c.behind
				}
				ranked := c.op != "==" && c.op != "!="
				if a.Kind == 0 || b.Kind == 0 || a.Kind != b.Kind || ranked && (a.Kind == 1 || a.Kind == 5) {
					want, fault = false, api.ErrType
				}
				if is, e := value.Compare(c.op, a, b); is != want || e != fault {
					t.Errorf("%v %s %v: %v, %d, not %v, %d", a, c.op, b, is, e, want, fault)
				}
			}
		}
	}
}

// P2.3: bags of other kinds are other bags, not an error; an empty one is the same, nil or not.
func TestCompareBags(t *testing.T) {
	a, b := bagOf(numbers(1)...), bagOf(at(1))
	if is, e := value.Compare("==", a, b); is || e != api.OK {
		t.Error(is, e)
	}
	if is, e := value.Compare("!=", a, b); !is || e != api.OK {
		t.Error(is, e)
	}
	if is, e := value.Compare("==", bagOf(), api.Value{Kind: 5, L: []api.Value{}}); !is || e != api.OK {
		t.Error(is, e)
	}
}

// P2.3: an op that is none, ahead of what the values' kinds say.
func TestCompareOps(t *testing.T) {
	for _, op := range []string{"", "=", "===", "=<", "=>", "<>", "!", "! =", " <", "< ", "in", "<\x00", "≤", "and"} {
		for _, a := range rising() {
			for _, b := range []api.Value{a, {}, value.Number(1), value.Truth(true), bagOf()} {
				if is, e := value.Compare(op, a, b); is || e != api.ErrArg {
					t.Errorf("%v %q %v: %v, %d", a, op, b, is, e)
				}
			}
		}
	}
}

// P2.3: ErrArg of what isn't formed, with every op.
func TestCompareUnformed(t *testing.T) {
	for name, bad := range unformed() {
		for _, c := range compares {
			for _, v := range append(rising(), bad) {
				is, e := value.Compare(c.op, bad, v)
				on, f := value.Compare(c.op, v, bad)
				if is || on || e != api.ErrArg || f != api.ErrArg {
					t.Errorf("%s with %s: %d, %d", c.op, name, e, f)
				}
			}
		}
	}
}

// R5: nothing that is asked changes what is handed in, its spare room too.
func TestAskedLeft(t *testing.T) {
	room := count(8)
	b := bagOf(room[:4]...)
	value.Formed(b)
	value.Order(b, bagOf(room[:3]...))
	value.In(value.Number(9), b)
	value.Compare("==", b, b)
	value.Add(b, b)
	value.Sub(b, b)
	value.Mul(b, b)
	if !reflect.DeepEqual(room, count(8)) {
		t.Error(room)
	}
}
