package check_test

import (
	"math"
	"math/rand"
	"slices"
	"strings"
	"testing"

	"gatepost/api"
	"gatepost/check"
	"gatepost/syntax"
	"gatepost/value"
)

// plainType is P9.1 by its words, of trees whose depth and parts are few.
func plainType(facts []syntax.Fact, e syntax.Expr) (int, api.Errno) {
	n := slices.IndexFunc([]string{"value now attr has role", "size not neg", "and or + - * == != < <= > >= in"}, func(s string) bool { return slices.Contains(strings.Fields(s), e.Op) })
	if n < 0 || n != len(e.Parts) {
		return 0, api.ErrForm
	}
	var of []int
	for _, p := range e.Parts {
		k, f := plainType(facts, p)
		if f != api.OK {
			return 0, f
		}
		of = append(of, k)
	}
	switch e.Op {
	case "value":
		if k := typeOf(e.V); value.Formed(e.V) && k != 0 && k != 10 {
			return k, api.OK
		}
		return 0, api.ErrForm
	case "now":
		return 4, api.OK
	case "role":
		return 1, api.OK
	case "attr", "has":
		for _, f := range facts {
			if f.Who != e.Who || f.Name != e.Name {
				continue
			}
			if e.Op == "has" {
				return 1, api.OK
			}
			return f.Kind + map[bool]int{true: 10}[f.Bag], api.OK
		}
		return 0, api.ErrNone
	}
	if k := takes(e.Op, of...); k != 0 {
		return k, api.OK
	}
	return 0, api.ErrType
}

// typeOf is a value's type: 10 of a bag without values, 0 of none.
func typeOf(v api.Value) int {
	if v.Kind != 5 {
		return v.Kind
	}
	if len(v.L) == 0 {
		return 10
	}
	return 10 + v.L[0].Kind
}

// scene is what expressions are evaluated in.
type scene struct {
	now   int64
	roles []string
	had   map[[2]string]api.Value
}

// value is an expression's in the scene, by the words of layer 11.
func (s scene) value(e syntax.Expr) (api.Value, api.Errno) {
	had, is := s.had[[2]string{e.Who, e.Name}]
	switch e.Op {
	case "value":
		return e.V, api.OK
	case "now":
		return api.Value{Kind: 4, I: s.now}, api.OK
	case "attr":
		if !is {
			return api.Value{}, api.ErrNone
		}
		return had, api.OK
	case "has":
		return value.Truth(is), api.OK
	case "role":
		return value.Truth(slices.Contains(s.roles, e.Name)), api.OK
	case "and", "or":
		return s.both(e)
	}
	var l []api.Value
	for _, p := range e.Parts {
		v, f := s.value(p)
		if f != api.OK {
			return api.Value{}, f
		}
		l = append(l, v)
	}
	return reckoned(e.Op, l)
}

// both is the value of an "and", or an "or": one part may tell it, whatever the other one's error.
func (s scene) both(e syntax.Expr) (api.Value, api.Errno) {
	var first api.Errno
	for _, p := range e.Parts {
		v, f := s.value(p)
		if f == api.OK && v.Kind != 1 {
			f = api.ErrType
		}
		if f == api.OK && (v.I == 1) == (e.Op == "or") {
			return v, api.OK
		}
		if first == api.OK {
			first = f
		}
	}
	if first != api.OK {
		return api.Value{}, first
	}
	return value.Truth(e.Op == "and"), api.OK
}

// reckoned is the value of an op whose parts have these.
func reckoned(op string, l []api.Value) (api.Value, api.Errno) {
	truth := func(is bool, f api.Errno) (api.Value, api.Errno) { return value.Truth(is), f }
	switch {
	case op == "not" && l[0].Kind == 1:
		return value.Truth(l[0].I == 0), api.OK
	case op == "neg" && l[0].Kind == 2:
		return value.Sub(value.Number(0), l[0])
	case op == "size" && l[0].Kind == 5:
		return value.Number(int64(len(l[0].L))), api.OK
	case len(l) == 1:
		return api.Value{}, api.ErrType
	case op == "+":
		return value.Add(l[0], l[1])
	case op == "-":
		return value.Sub(l[0], l[1])
	case op == "*":
		return value.Mul(l[0], l[1])
	case op == "in":
		return truth(value.In(l[0], l[1]))
	}
	return truth(value.Compare(op, l[0], l[1]))
}

// someValue is any value of a type.
func someValue(r *rand.Rand, k int) api.Value {
	switch k {
	case 1:
		return value.Truth(r.Intn(2) == 0)
	case 2:
		return value.Number([]int64{0, 1, -1, 3, math.MaxInt64, math.MinInt64, r.Int63()}[r.Intn(7)])
	case 3:
		return value.Text([]string{"", "a", "b", "x"}[r.Intn(4)])
	case 4:
		return api.Value{Kind: 4, I: []int64{0, 1, 9, api.MaxTime, r.Int63n(api.MaxTime)}[r.Intn(5)]}
	}
	var l []api.Value
	for range 1 + r.Intn(3) {
		l = append(l, someValue(r, k-10))
	}
	v, _ := value.Bag(l...)
	return v
}

// someScene is any scene in which all that is had fits the facts; bags may be without values.
func someScene(r *rand.Rand, facts []syntax.Fact) scene {
	s := scene{now: someValue(r, 4).I, had: map[[2]string]api.Value{}}
	if r.Intn(2) == 0 {
		s.roles = []string{"x"}
	}
	for _, f := range facts {
		at := [2]string{f.Who, f.Name}
		switch {
		case r.Intn(4) == 0:
		case f.Bag && r.Intn(3) == 0:
			s.had[at] = api.Value{Kind: 5}
		case f.Bag:
			s.had[at] = someValue(r, 10+f.Kind)
		default:
			s.had[at] = someValue(r, f.Kind)
		}
	}
	return s
}

// someTree is any tree of a type, but that now and then a part is of another one, or is none.
func someTree(r *rand.Rand, k, room, spoilt int) syntax.Expr {
	if spoilt > 0 && r.Intn(spoilt) == 0 {
		if r.Intn(3) == 0 {
			return someWrong(r, room)
		}
		k = allTypes()[r.Intn(8)]
	}
	leaves := []syntax.Expr{literal(someValue(r, k)), attr("env", "a"+itoa(k)), attr("subject", "a"+itoa(k))}
	switch k {
	case 1:
		leaves = append(leaves, syntax.Expr{Op: "role", Name: "x"}, syntax.Expr{Op: "has", Who: "env", Name: "a13"})
	case 4:
		leaves = append(leaves, syntax.Expr{Op: "now"})
	}
	if room == 0 || k == 3 || k > 10 || r.Intn(6) == 0 {
		return leaves[r.Intn(len(leaves))]
	}
	part := func(k int) syntax.Expr { return someTree(r, k, room-1, spoilt) }
	two := func(a, b int, ops string) syntax.Expr {
		l := strings.Fields(ops)
		return made(l[r.Intn(len(l))], part(a), part(b))
	}
	any, alone := allTypes()[r.Intn(8)], 1+r.Intn(4)
	switch {
	case k == 4:
		return two(4, 2, "+ -")
	case k == 2:
		return []func() syntax.Expr{
			func() syntax.Expr { return made("neg", part(2)) },
			func() syntax.Expr { return made("size", part(10+alone)) },
			func() syntax.Expr { return two(2, 2, "+ - *") },
			func() syntax.Expr { return two(4, 4, "-") },
		}[r.Intn(4)]()
	}
	return []func() syntax.Expr{
		func() syntax.Expr { return made("not", part(1)) },
		func() syntax.Expr { return two(1, 1, "and or") },
		func() syntax.Expr { return two(any, any, "== !=") },
		func() syntax.Expr { a := 2 + r.Intn(3); return two(a, a, "< <= > >=") },
		func() syntax.Expr { return two(alone, 10+alone, "in") },
	}[r.Intn(5)]()
}

// someWrong is a tree that has no type, whatever its parts.
func someWrong(r *rand.Rand, room int) syntax.Expr {
	l := strangeValues()
	switch r.Intn(6) {
	case 0:
		return literal(l[r.Intn(len(l))])
	case 1:
		return attr([]string{"env", "resource", "x"}[r.Intn(3)], []string{"b", "a1x", ""}[r.Intn(3)])
	case 2:
		return syntax.Expr{Op: "has", Who: "action", Name: "a1"}
	}
	e := made([]string{"xor", "", "not", "size", "and", "<", "in", "now", "value"}[r.Intn(9)])
	for range r.Intn(4) {
		e.Parts = append(e.Parts, someTree(r, allTypes()[r.Intn(8)], max(room-1, 0), 5))
	}
	return e
}

// itoa is a small number's text.
func itoa(n int) string {
	return strings.TrimPrefix(string([]byte{byte('0' + n/10), byte('0' + n%10)}), "0")
}

// modelFacts are an attribute of each type of env and of subject, and some again, of other types.
func modelFacts() []syntax.Fact {
	l := someFacts()
	for _, f := range someFacts() {
		f.Who = "subject"
		l = append(l, f)
	}
	for _, f := range someFacts() {
		f.Kind, f.Bag = 1+f.Kind%4, !f.Bag
		l = append(l, f)
	}
	return l
}

// P9.1: trees by chance, right and spoilt, by the chapter's words.
func TestTypeModel(t *testing.T) {
	r, facts, told := rand.New(rand.NewSource(91)), modelFacts(), map[api.Errno]int{}
	for i := range 30000 {
		e := someTree(r, allTypes()[r.Intn(8)], r.Intn(6), []int{0, 3, 8}[i%3])
		k, f := check.Type(facts, e)
		want, fault := plainType(facts, e)
		if k != want || f != fault {
			t.Fatalf("%s is %d, %d, not %d, %d", show(e, 9), k, f, want, fault)
		}
		told[f]++
		if i%3 == 0 && f != api.OK {
			t.Fatalf("%s: %d", show(e, 9), f)
		}
	}
	if told[api.OK] < 10000 || told[api.ErrForm] < 1000 || told[api.ErrNone] < 500 || told[api.ErrType] < 1000 {
		t.Error(told)
	}
}

// isOf is that a value, or an error, is what an expression of that type may come to.
func isOf(k int, v api.Value, f api.Errno) bool {
	if f != api.OK {
		return f == api.ErrNone || f == api.ErrOver
	}
	return value.Formed(v) && (typeOf(v) == k || typeOf(v) == 10 && k > 10)
}

// P9.3: each op with values and attributes of each type: what has a type comes to a value of it, wherever what is had fits the facts.
func TestValuesOps(t *testing.T) {
	r := rand.New(rand.NewSource(92))
	scenes := make([]scene, 40)
	for i := range scenes {
		scenes[i] = someScene(r, someFacts())
	}
	asked := func(e syntax.Expr) {
		k, f := check.Type(someFacts(), e)
		if f != api.OK {
			return
		}
		for _, s := range scenes {
			if v, f := s.value(e); !isOf(k, v, f) {
				t.Fatalf("%s of the type %d is %v, %d", show(e, 9), k, v, f)
			}
		}
	}
	for _, a := range allTypes() {
		for _, x := range samples(t, a) {
			asked(x)
			for _, op := range oneOps() {
				asked(made(op, x))
			}
			for _, b := range allTypes() {
				for _, y := range samples(t, b)[:3] {
					for _, op := range twoOps() {
						asked(made(op, x, y))
					}
				}
			}
		}
	}
}

// P9.3: likewise trees by chance.
func TestValuesModel(t *testing.T) {
	r, facts, told := rand.New(rand.NewSource(93)), modelFacts(), map[api.Errno]int{}
	fitting := facts[:16] // the first ones count
	for i := range 30000 {
		e := someTree(r, allTypes()[r.Intn(8)], r.Intn(6), []int{0, 3, 8}[i%3])
		k, f := check.Type(facts, e)
		if f != api.OK {
			continue
		}
		for range 3 {
			v, f := someScene(r, fitting).value(e)
			if !isOf(k, v, f) {
				t.Fatalf("%s of the type %d is %v, %d", show(e, 9), k, v, f)
			}
			told[f]++
		}
	}
	if told[api.OK] < 10000 || told[api.ErrNone] < 1000 || told[api.ErrOver] < 1000 {
		t.Error(told)
	}
}
