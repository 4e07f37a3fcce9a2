package value_test

import (
	"cmp"
	"math"
	"math/rand"
	"reflect"
	"slices"
	"strings"
	"testing"

	"gatepost/api"
	"gatepost/value"
)

const (
	least    = math.MinInt64
	greatest = math.MaxInt64
)

// at is the time n. The package makes times of times alone, so the tests write them out.
func at(n int64) api.Value {
	return api.Value{Kind: 4, I: n}
}

// bagOf is a bag written out, whether it may be or not.
func bagOf(l ...api.Value) api.Value {
	return api.Value{Kind: 5, L: l}
}

func numbers(l ...int64) []api.Value {
	var all []api.Value
	for _, n := range l {
		all = append(all, value.Number(n))
	}
	return all
}

// count is n numbers from 1 on.
func count(n int) []api.Value {
	var l []api.Value
	for i := range n {
		l = append(l, value.Number(int64(i+1)))
	}
	return l
}

// knot is a bag that holds itself.
func knot() api.Value {
	l := make([]api.Value, 1)
	l[0] = bagOf(l...)
	return l[0]
}

// rising is formed values of all kinds and their edges, by the words of the order each ahead of the next one.
func rising() []api.Value {
	long := strings.Repeat("z", api.MaxText)
	texts := []string{"", "\x00", "\x00\x00", "A", "B", "a", "a\x00", "ab", "b", "ba", "z", long[1:], long, "\x7f", "\x80", "é", "\xff"}
	l := []api.Value{{}, value.Truth(false), value.Truth(true)}
	l = append(l, numbers(least, least+1, -256, -1, 0, 1, 2, 1<<32, greatest-1, greatest)...)
	for _, s := range texts {
		l = append(l, value.Text(s))
	}
	for _, n := range []int64{0, 1, 2, api.MaxTime - 1, api.MaxTime} {
		l = append(l, at(n))
	}
	return append(l,
		bagOf(),
		bagOf(value.Truth(false)),
		bagOf(value.Truth(false), value.Truth(true)),
		bagOf(value.Truth(true)),
		bagOf(numbers(least)...),
		bagOf(numbers(least, greatest)...),
		bagOf(numbers(-1, 5)...),
		bagOf(numbers(1)...),
		bagOf(count(2)...),
		bagOf(count(15)...),
		bagOf(count(16)...),
		bagOf(numbers(1, 3)...),
		bagOf(numbers(2)...),
		bagOf(numbers(2, 3)...),
		bagOf(value.Text("")),
		bagOf(value.Text(""), value.Text("a")),
		bagOf(value.Text("a"), value.Text("b")),
		bagOf(value.Text("ab")),
		bagOf(value.Text(long)),
		bagOf(at(0)),
		bagOf(at(0), at(api.MaxTime)),
		bagOf(at(api.MaxTime)),
	)
}

// unformed is what is no value, each for one reason.
func unformed() map[string]api.Value {
	n := value.Number(1)
	full := strings.Repeat("z", api.MaxText)
	return map[string]api.Value{
		"none with I":         {I: 1},
		"none with S":         {S: "a"},
		"none with L":         {L: numbers(1)},
		"truth 2":             {Kind: 1, I: 2},
		"truth -1":            {Kind: 1, I: -1},
		"truth least":         {Kind: 1, I: least},
		"truth 2^32":          {Kind: 1, I: 1 << 32},
		"truth with S":        {Kind: 1, I: 1, S: "a"},
		"truth with L":        {Kind: 1, I: 1, L: numbers(1)},
		"number with S":       {Kind: 2, I: 1, S: "a"},
		"number with L":       {Kind: 2, I: 1, L: []api.Value{{}}},
		"text with I":         {Kind: 3, I: 1, S: "a"},
		"text with L":         {Kind: 3, S: "a", L: numbers(1)},
		"text too long":       {Kind: 3, S: full + "z"},
		"text much too long":  {Kind: 3, S: strings.Repeat(full, 100)},
		"time -1":             at(-1),
		"time least":          at(least),
		"time above":          at(api.MaxTime + 1),
		"time greatest":       at(greatest),
		"time with S":         {Kind: 4, S: "a"},
		"time with L":         {Kind: 4, L: numbers(1)},
		"bag with I":          {Kind: 5, I: 1, L: numbers(1)},
		"bag with S":          {Kind: 5, S: "a", L: numbers(1)},
		"empty bag with I":    {Kind: 5, I: -1},
		"empty bag with S":    {Kind: 5, S: "\x00"},
		"bag of 17":           bagOf(count(17)...),
		"bag of 1000":         bagOf(count(1000)...),
		"bag falling":         bagOf(numbers(2, 1)...),
		"bag falling last":    bagOf(numbers(1, 2, 3, 2)...),
		"bag twice":           bagOf(numbers(1, 1)...),
		"bag twice last":      bagOf(numbers(1, 2, 2)...),
		"bag of texts falls":  bagOf(value.Text("b"), value.Text("a")),
		"bag of truths twice": bagOf(value.Truth(true), value.Truth(true)),
		"bag of times falls":  bagOf(at(2), at(1)),
		"bag of two kinds":    bagOf(value.Truth(true), n),
		"bag of text, time":   bagOf(value.Text("a"), at(1)),
		"bag of kinds late":   bagOf(n, value.Number(2), value.Text("a")),
		"bag of none":         bagOf(api.Value{}),
		"bag of none, number": bagOf(api.Value{}, n),
		"bag of bag":          bagOf(bagOf(n)),
		"bag of empty bag":    bagOf(bagOf()),
		"bag of number, bag":  bagOf(n, bagOf(n)),
		"bag of bad truth":    bagOf(api.Value{Kind: 1, I: 2}),
		"bag of bad number":   bagOf(n, api.Value{Kind: 2, I: 2, S: "a"}),
		"bag of listed":       bagOf(api.Value{Kind: 2, I: 2, L: numbers(1)}),
		"bag of bad text":     bagOf(api.Value{Kind: 3, S: full + "z"}),
		"bag of bad time":     bagOf(at(-1)),
		"bag of kind 6":       bagOf(api.Value{Kind: 6}),
		"bag of itself":       knot(),
		"kind 6":              {Kind: 6},
		"kind -1":             {Kind: -1},
		"kind 256 and 2":      {Kind: 258, I: 1},
		"kind greatest":       {Kind: greatest},
		"kind least":          {Kind: least, L: numbers(1)},
	}
}

// P2.1: all kinds with their edges are formed.
func TestFormed(t *testing.T) {
	for _, v := range rising() {
		if !value.Formed(v) {
			t.Errorf("not formed: %v", v)
		}
		if v.L == nil {
			v.L = make([]api.Value, 0, 3)
			if !value.Formed(v) {
				t.Errorf("not formed with an empty list: %v", v)
			}
		}
	}
}

// P2.1: one thing amiss, and it isn't formed.
func TestNotFormed(t *testing.T) {
	for name, v := range unformed() {
		if value.Formed(v) {
			t.Errorf("formed: %s", name)
		}
	}
}

// P2.1, P2.4: of every two values the order says which is ahead, and no two but the same ones are equal. So it is total.
func TestOrder(t *testing.T) {
	l := rising()
	for i, a := range l {
		for j, b := range l {
			if got := value.Order(a, b); got != cmp.Compare(i, j) {
				t.Errorf("Order(%v, %v) is %d", a, b, got)
			}
		}
	}
}

// anyValue is a formed value, out of few, so that equal ones and bags that begin alike come up.
func anyValue(r *rand.Rand, kind int) api.Value {
	n := r.Int63n(4)
	switch kind {
	case 1:
		return value.Truth(n%2 == 1)
	case 2:
		return value.Number(n - 2)
	case 3:
		return value.Text([]string{"", "a", "aa", "b"}[n])
	case 4:
		return at(n)
	case 5:
		var l []api.Value
		within := 1 + r.Intn(4)
		for range n {
			l = append(l, anyValue(r, within))
		}
		b, _ := value.Bag(l...)
		return b
	}
	return api.Value{}
}

// P2.4: of any three values: one ahead of another or the same, either way round, and on from one to the next.
func TestOrderTotal(t *testing.T) {
	r := rand.New(rand.NewSource(3))
	for range 100000 {
		kind := r.Intn(6)
		a, b, c := anyValue(r, kind), anyValue(r, kind), anyValue(r, r.Intn(6))
		ab, bc, ac := value.Order(a, b), value.Order(b, c), value.Order(a, c)
		if value.Order(b, a) != -ab || (ab == 0) != reflect.DeepEqual(a, b) {
			t.Fatalf("%v and %v", a, b)
		}
		if ab <= 0 && bc <= 0 && (ac > 0 || ac == 0 && (ab < 0 || bc < 0)) {
			t.Fatalf("%v, %v and %v", a, b, c)
		}
	}
}

// R5: a nil list and an empty one are the same bag.
func TestOrderEmpty(t *testing.T) {
	a, b := bagOf(), api.Value{Kind: 5, L: []api.Value{}}
	if value.Order(a, b) != 0 || value.Order(b, a) != 0 || value.Order(b, bagOf(numbers(least)...)) != -1 {
		t.Error("an empty bag's order")
	}
	x, y := value.Number(3), api.Value{Kind: 2, I: 3, L: []api.Value{}}
	if value.Order(x, y) != 0 || value.Order(bagOf(x), bagOf(y)) != 0 {
		t.Error("a number with an empty list")
	}
}

// R1: Order ends of what isn't formed, and says nothing but -1, 0 and 1.
func TestOrderEnds(t *testing.T) {
	l := rising()
	for _, v := range unformed() {
		l = append(l, v)
	}
	for _, a := range l {
		for _, b := range l {
			if got := value.Order(a, b); got < -1 || got > 1 {
				t.Errorf("Order(%v, %v) is %d", a.Kind, b.Kind, got)
			}
		}
	}
	deep := bagOf()
	for range 1 << 20 {
		deep = bagOf(deep)
	}
	if value.Formed(deep) || value.Order(deep, deep) != 0 {
		t.Error("a bag of bags of bags")
	}
}

// P2.1: the makers, each with nothing in the fields that its kind doesn't have.
func TestMakers(t *testing.T) {
	same := func(got, want api.Value) {
		t.Helper()
		if !reflect.DeepEqual(got, want) || !value.Formed(got) {
			t.Errorf("%v, not %v", got, want)
		}
	}
	same(value.Truth(false), api.Value{Kind: 1})
	same(value.Truth(true), api.Value{Kind: 1, I: 1})
	for _, n := range []int64{least, -1, 0, 1, greatest} {
		same(value.Number(n), api.Value{Kind: 2, I: n})
	}
	for _, s := range []string{"", "a", "\x00", "\xff\xfe", "wörter"} {
		same(value.Text(s), api.Value{Kind: 3, S: s})
	}
}

// P2.1: of a text that is too long the first MaxText bytes, even if they end within a rune.
func TestTextLong(t *testing.T) {
	var all strings.Builder
	for i := range 3 * api.MaxText {
		all.WriteByte(byte(i))
	}
	runes := strings.Repeat("a", api.MaxText-1) + "é"
	for _, s := range []string{all.String(), runes, strings.Repeat("x", 1<<20)} {
		for _, n := range []int{api.MaxText - 1, api.MaxText, api.MaxText + 1, len(s)} {
			v := value.Text(s[:n])
			if v.S != s[:min(n, 64)] || v.Kind != 3 || !value.Formed(v) {
				t.Errorf("of %d bytes: %q", n, v.S)
			}
		}
	}
}

// P2.1: the bag of all, rising, each once.
func TestBag(t *testing.T) {
	for _, c := range []struct{ from, want []api.Value }{
		{nil, nil},
		{numbers(7), numbers(7)},
		{numbers(2, 1, 2), numbers(1, 2)},
		{numbers(greatest, least, 0, least, greatest, -1), numbers(least, -1, 0, greatest)},
		{[]api.Value{value.Truth(true), value.Truth(false), value.Truth(true)}, []api.Value{value.Truth(false), value.Truth(true)}},
		{[]api.Value{value.Text("b"), value.Text(""), value.Text("ab"), value.Text("b")}, []api.Value{value.Text(""), value.Text("ab"), value.Text("b")}},
		{[]api.Value{at(9), at(api.MaxTime), at(0), at(9)}, []api.Value{at(0), at(9), at(api.MaxTime)}},
		{count(16), count(16)},
	} {
		b, e := value.Bag(c.from...)
		if e != api.OK || value.Order(b, bagOf(c.want...)) != 0 || !value.Formed(b) || b.Kind != 5 {
			t.Errorf("Bag(%v) is %v, %d", c.from, b, e)
		}
	}
	if b, e := value.Bag(); e != api.OK || b.Kind != 5 || len(b.L) != 0 || !value.Formed(b) {
		t.Errorf("Bag() is %v, %d", b, e)
	}
}

// P2.1: the order in which a bag's values come changes nothing.
func TestBagShuffled(t *testing.T) {
	r := rand.New(rand.NewSource(1))
	for range 200 {
		n := r.Intn(api.MaxBag + 1)
		l := count(n)
		for range r.Intn(20) {
			if n > 0 {
				l = append(l, l[r.Intn(n)])
			}
		}
		r.Shuffle(len(l), func(i, j int) { l[i], l[j] = l[j], l[i] })
		if b, e := value.Bag(l...); e != api.OK || value.Order(b, bagOf(count(n)...)) != 0 {
			t.Fatalf("Bag(%v) is %v, %d", l, b, e)
		}
	}
}

// P2.1: MaxBag different ones however many come, and one more, wherever it stands.
func TestBagMany(t *testing.T) {
	many := slices.Repeat(count(16), 50)
	if b, e := value.Bag(many...); e != api.OK || len(b.L) != 16 {
		t.Errorf("800 of 16: %v, %d", b, e)
	}
	for _, more := range []int64{0, 17} {
		for _, i := range []int{0, 8, 16, 400, 800} {
			l := slices.Insert(slices.Clone(many), i, value.Number(more))
			if b, e := value.Bag(l...); e != api.ErrMany || !reflect.DeepEqual(b, api.Value{}) {
				t.Errorf("a seventeenth at %d: %v, %d", i, b, e)
			}
		}
	}
	if b, e := value.Bag(count(17)...); e != api.ErrMany || !reflect.DeepEqual(b, api.Value{}) {
		t.Errorf("17: %v, %d", b, e)
	}
}

// P2.1: what can't be in one bag; ErrArg is asked ahead of ErrType, that ahead of ErrMany, wherever they stand.
func TestBagErrors(t *testing.T) {
	n, bad := value.Number(1), api.Value{Kind: 2, S: "a"}
	for _, c := range []struct {
		l []api.Value
		e api.Errno
	}{
		{[]api.Value{{}}, api.ErrType},
		{[]api.Value{{}, {}}, api.ErrType},
		{[]api.Value{n, {}}, api.ErrType},
		{[]api.Value{{}, n}, api.ErrType},
		{[]api.Value{bagOf()}, api.ErrType},
		{[]api.Value{bagOf(n)}, api.ErrType},
		{[]api.Value{bagOf(n), bagOf(n)}, api.ErrType},
		{[]api.Value{n, bagOf(n)}, api.ErrType},
		{[]api.Value{n, n, value.Text("a")}, api.ErrType},
		{[]api.Value{n, at(1)}, api.ErrType},
		{[]api.Value{value.Truth(true), n}, api.ErrType},
		{append(count(17), value.Text("a")), api.ErrType},
		{append(count(17), api.Value{}), api.ErrType},
		{append(count(17), bad), api.ErrArg},
		{[]api.Value{{}, bad}, api.ErrArg},
		{[]api.Value{bad, {}}, api.ErrArg},
		{[]api.Value{n, value.Text("a"), bad}, api.ErrArg},
		{[]api.Value{bagOf(n), n, at(-1)}, api.ErrArg},
	} {
		if b, e := value.Bag(c.l...); e != c.e || !reflect.DeepEqual(b, api.Value{}) {
			t.Errorf("Bag(%v) is %v, %d, not %d", c.l, b, e, c.e)
		}
	}
	for name, v := range unformed() {
		for _, l := range [][]api.Value{{v}, {n, v}, {v, n}} {
			if b, e := value.Bag(l...); e != api.ErrArg || !reflect.DeepEqual(b, api.Value{}) {
				t.Errorf("Bag with %s is %v, %d", name, b, e)
			}
		}
	}
}

// R5: the list is left as it is, its spare room too, and the bag has no memory of it.
func TestBagMemory(t *testing.T) {
	inner := numbers(8, 9)
	room := append(numbers(3, 1, 3, 2), numbers(70, 71, 72)...)
	for i := range 4 {
		room[i].L = inner[:0]
	}
	before := slices.Clone(room)
	b, e := value.Bag(room[:4]...)
	if e != api.OK || !reflect.DeepEqual(room, before) {
		t.Fatalf("the list was changed: %v, %d", room, e)
	}
	for i := range b.L {
		_ = append(b.L[i].L, value.Text("new"))
		b.L[i].I += 100
	}
	_ = append(b.L, value.Text("new"))
	if !reflect.DeepEqual(room, before) || !reflect.DeepEqual(inner, numbers(8, 9)) {
		t.Error("the bag has the list's memory")
	}
	sorted := count(3)
	if c, _ := value.Bag(sorted...); &c.L[0] == &sorted[0] {
		t.Error("a rising list is handed out as it is")
	}
}
