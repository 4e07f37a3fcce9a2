package chain_test

import (
	"bytes"
	"crypto/sha256"
	"encoding/binary"
	"math"
	"math/rand"
	"reflect"
	"slices"
	"testing"

	"gatepost/api"
	"gatepost/chain"
)

const (
	least    = math.MinInt
	greatest = math.MaxInt
)

// link is a link by layer 1's words, of the library's fingerprint.
func link(prev api.Hash, record []byte) api.Hash {
	b := slices.Clone(prev[:])
	b = binary.BigEndian.AppendUint32(b, uint32(len(record)))
	return sha256.Sum256(append(b, record...))
}

// headOf is a list's head by the chapter's words.
func headOf(records [][]byte) chain.Head {
	var h chain.Head
	for i, r := range records {
		h = chain.Head{Hash: link(h.Hash, r), Count: i + 1}
	}
	return h
}

// list is records of these texts.
func list(texts ...string) [][]byte {
	l := [][]byte{}
	for _, s := range texts {
		l = append(l, []byte(s))
	}
	return l
}

// same is whether two lists have the same records.
func same(a, b [][]byte) bool {
	return slices.EqualFunc(a, b, bytes.Equal)
}

// copyOf is the same records in memory of their own, with the nil ones nil.
func copyOf(l [][]byte) [][]byte {
	var c [][]byte
	for _, r := range l {
		c = append(c, bytes.Clone(r))
	}
	return c
}

// lists is all lists of at most n records out of these texts.
func lists(n int, texts ...string) [][][]byte {
	all := [][][]byte{{}}
	for from := 0; n > 0; n-- {
		to := len(all)
		for _, l := range all[from:to] {
			for _, s := range texts {
				all = append(all, append(slices.Clone(l), []byte(s)))
			}
		}
		from = to
	}
	return all
}

// some is lists round the edges: none, one, empty records, long ones, and the same one more than once.
func some() [][][]byte {
	long := bytes.Repeat([]byte("0123456789abcdef"), 300)
	return [][][]byte{
		nil, {}, {nil}, {{}}, list("a"), list("", ""), {nil, {}, nil},
		list("a", "b"), list("a", "", "ccc"), list("r", "r", "r", "r"),
		{long, long[:api.MaxBytes], long[:1], long[:0], long[:19], long[:20], long[:28], long[:64], long[:256]},
		list("1", "2", "3", "4", "5", "6", "7", "8", "9"),
	}
}

// P5.1: noughts and 0 at first, which is the head of no records.
func TestNoRecords(t *testing.T) {
	none := chain.Head{}
	if chain.All() != none || chain.All(nil...) != none || chain.All([][]byte{}...) != none {
		t.Error("All of no records isn't noughts and 0")
	}
	if !chain.Check(none, nil) || !chain.Check(none, [][]byte{}) {
		t.Error("no records haven't the first head")
	}
	if chain.Check(none, [][]byte{nil}) {
		t.Error("an empty record is as good as none")
	}
}

// P5.1: behind a record the head is the link from it to the record, and one more, whatever head it is.
func TestNext(t *testing.T) {
	var hash api.Hash
	for i := range hash {
		hash[i] = byte(200 - i)
	}
	for _, h := range []chain.Head{{}, {Hash: hash}, {Count: 7}, {Hash: hash, Count: 7}, {Hash: hash, Count: -1}, {Hash: hash, Count: least}, {Hash: hash, Count: greatest - 1}} {
		for _, r := range [][]byte{nil, {}, {0}, []byte("a"), hash[:], bytes.Repeat([]byte("x"), 70000)} {
			want := chain.Head{Hash: link(h.Hash, r), Count: h.Count + 1}
			if got := chain.Next(h, r); got != want {
				t.Errorf("behind %d bytes, from %v on: %v, not %v", len(r), h, got, want)
			}
		}
	}
	// No count is above that one: only that the call ends is asked.
	chain.Next(chain.Head{Count: greatest}, nil)
}

// P5.1: a list's head is that behind all its records, in order.
func TestAll(t *testing.T) {
	for i, l := range some() {
		want := headOf(l)
		if got := chain.All(l...); got != want || got.Count != len(l) {
			t.Errorf("list %d: %v, not %v", i, got, want)
		}
		var h chain.Head
		for _, r := range l {
			h = chain.Next(h, r)
		}
		if h != want {
			t.Errorf("list %d, by Next: %v, not %v", i, h, want)
		}
	}
	a, b := []byte("a"), []byte("b")
	if chain.All(a, b) != headOf([][]byte{a, b}) || chain.All(b, a) == chain.All(a, b) {
		t.Error("the order of two records")
	}
}

// P5.1: a record's borders count, and empty records do.
func TestBorders(t *testing.T) {
	seen := map[chain.Head]int{}
	for i, l := range [][][]byte{
		nil, list(""), list("", ""), list("abc"), list("ab", "c"), list("a", "bc"), list("a", "b", "c"),
		list("abc", ""), list("", "abc"), list("\x00"), list("\x00\x00\x00\x00"),
	} {
		h := chain.All(l...)
		if k, ok := seen[h]; ok {
			t.Errorf("the lists %d and %d have one head", k, i)
		}
		seen[h] = i
	}
}

// P5.1: Check asks for the fingerprint and for the count.
func TestCheck(t *testing.T) {
	for i, l := range some() {
		h := headOf(l)
		if !chain.Check(h, l) || !chain.Check(h, copyOf(l)) {
			t.Errorf("list %d hasn't its head", i)
		}
		for _, n := range []int{h.Count - 1, h.Count + 1, 0, -1, -h.Count, least, greatest} {
			if n != h.Count && chain.Check(chain.Head{Hash: h.Hash, Count: n}, l) {
				t.Errorf("list %d has its fingerprint, with the count %d", i, n)
			}
		}
		for k := range h.Hash {
			bad := h
			bad.Hash[k] ^= 1 << (k % 8)
			if chain.Check(bad, l) {
				t.Errorf("list %d has its count, with another fingerprint at %d", i, k)
			}
		}
	}
}

// P5.1: no list has another one's head: too short, too long, in another order, or with another record.
func TestCheckOthers(t *testing.T) {
	l := list("a", "", "ccc")
	h := headOf(l)
	for i, other := range [][][]byte{
		nil, l[:1], l[:2], l[1:], list("a", "", "ccc", ""), list("", "a", "", "ccc"), list("", "a", "ccc"),
		list("ccc", "", "a"), list("b", "", "ccc"), list("a", "x", "ccc"), list("a", "", "ccd"), list("a", "", "cc"), list("a", "ccc"),
	} {
		if chain.Check(h, other) {
			t.Errorf("the list %d has the head", i)
		}
	}
}

// P5.1: at each place the proof is the head ahead, and the records from it on; and it proves just that.
func TestProve(t *testing.T) {
	for i, l := range some() {
		for place := range l {
			p, e := chain.Prove(l, place)
			if e != api.OK || p.Before != headOf(l[:place]) || !same(p.Records, l[place:]) {
				t.Fatalf("list %d at %d: %v, %d", i, place, p, e)
			}
			if !chain.Proves(headOf(l), place, l[place], p) || !chain.Proves(headOf(l), place, bytes.Clone(l[place]), p) {
				t.Errorf("list %d: what is proved at %d isn't", i, place)
			}
		}
	}
}

// P5.1: a place below 0, the one behind the last, and those far off are none.
func TestProveNone(t *testing.T) {
	for i, l := range some() {
		for _, place := range []int{least, -len(l), -2, -1, len(l), len(l) + 1, greatest} {
			p, e := chain.Prove(l, place)
			if e != api.ErrNone || p.Before != (chain.Head{}) || len(p.Records) != 0 {
				t.Errorf("list %d at %d: %v, %d", i, place, p, e)
			}
		}
	}
	if _, e := chain.Prove(list("a", "b"), 1); e != api.OK {
		t.Errorf("the last place: %d", e)
	}
	if _, e := chain.Prove(list("a", "b"), 2); e != api.ErrNone {
		t.Errorf("the one behind it: %d", e)
	}
}

// P5.1: a nil record and an empty one are the same one to prove.
func TestProvesEmpty(t *testing.T) {
	for _, l := range [][][]byte{{nil}, {{}}, {{}, nil}, {nil, []byte("a")}} {
		p, e := chain.Prove(l, 0)
		if e != api.OK || !chain.Proves(headOf(l), 0, nil, p) || !chain.Proves(headOf(l), 0, []byte{}, p) || chain.Proves(headOf(l), 0, []byte{0}, p) {
			t.Errorf("%v: %v, %d", l, p, e)
		}
	}
}

// P5.1: a proof of no records proves nothing, though the head behind them is the one asked.
func TestProvesNoRecords(t *testing.T) {
	for _, h := range []chain.Head{{}, headOf(list("a", "b"))} {
		for _, records := range [][][]byte{nil, {}} {
			for _, record := range [][]byte{nil, {}, []byte("a"), []byte("b")} {
				if chain.Proves(h, h.Count, record, chain.Proof{Before: h, Records: records}) {
					t.Errorf("no records prove %q behind %d", record, h.Count)
				}
			}
		}
	}
	if chain.Proves(chain.Head{}, 0, nil, chain.Proof{}) {
		t.Error("a zero proof proves")
	}
}

// P5.1: each thing that is asked of a proof is asked: one of them wrong, and all else right, it isn't one.
func TestProvesWrong(t *testing.T) {
	l := list("a", "bb", "", "bb")
	h := headOf(l)
	for place := range l {
		good, _ := chain.Prove(l, place)
		for _, n := range []int{place - 1, place + 1, -1, len(l), least, greatest} {
			if chain.Proves(h, n, l[place], good) {
				t.Errorf("the proof at %d is one at %d", place, n)
			}
		}
		for _, record := range []string{"a", "bb", "", "b", "bbb", "A", "\x00"} {
			if record != string(l[place]) && chain.Proves(h, place, []byte(record), good) {
				t.Errorf("the proof at %d is one of %q", place, record)
			}
		}
		for _, other := range []chain.Head{{}, {Hash: h.Hash}, {Hash: h.Hash, Count: 3}, {Hash: h.Hash, Count: 5}, {Count: 4}, headOf(l[:3]), good.Before} {
			if chain.Proves(other, place, l[place], good) {
				t.Errorf("the proof at %d is one to %v", place, other)
			}
		}
		for k := range h.Hash {
			bad := good
			bad.Before.Hash[k] ^= 0x80
			if chain.Proves(h, place, l[place], bad) {
				t.Errorf("a proof at %d with another fingerprint ahead, at %d", place, k)
			}
		}
	}
}

// P5.1: proofs whose records aren't those of the list from the place on.
func TestProvesOtherRecords(t *testing.T) {
	l := list("a", "b", "c", "d")
	h := headOf(l)
	good, _ := chain.Prove(l, 1)
	for i, records := range [][][]byte{
		list("x", "c", "d"), list("c", "b", "d"), list("b", "d", "c"), list("b", "c"), list("b"), list("b", "c", "d", ""),
		list("b", "c", "x"), list("b", "x", "d"), list("c", "d"), list("a", "b", "c", "d"), list("bc", "d"),
	} {
		if chain.Proves(h, 1, []byte("b"), chain.Proof{Before: good.Before, Records: records}) {
			t.Errorf("the records %d prove", i)
		}
		if chain.Proves(h, 1, records[0], chain.Proof{Before: good.Before, Records: records}) {
			t.Errorf("the records %d prove their first one", i)
		}
	}
	// A count that fits the place, and not the records, and one that fits the records, and not the place.
	for _, n := range []int{0, 2, 3, -1} {
		p := chain.Proof{Before: chain.Head{Hash: good.Before.Hash, Count: n}, Records: good.Records}
		if chain.Proves(h, n, l[1], p) || chain.Proves(h, 1, l[1], p) {
			t.Errorf("a head ahead with the count %d proves", n)
		}
	}
}

// P5.1: Proves goes from Before on, whatever is ahead: it needs none of those records.
func TestProvesFromBefore(t *testing.T) {
	before := chain.Head{Hash: api.Hash{1, 2, 3}, Count: 41}
	p := chain.Proof{Before: before, Records: list("x", "", "z")}
	h := chain.Head{Hash: link(link(link(before.Hash, []byte("x")), nil), []byte("z")), Count: 44}
	if !chain.Proves(h, 41, []byte("x"), p) {
		t.Error("a proof from a head in the midst isn't one")
	}
	if chain.Proves(h, 0, []byte("x"), p) || chain.Proves(chain.Head{Hash: h.Hash, Count: 3}, 41, []byte("x"), p) {
		t.Error("its count isn't asked")
	}
}

// none is whether Clash tells nothing, whichever list comes first.
func none(t *testing.T, a, b [][]byte) {
	t.Helper()
	for range 2 {
		if x, y, ok := chain.Clash(a, b); ok || len(x) != 0 || len(y) != 0 {
			t.Errorf("%q and %q clash: %q, %q, %v", a, b, x, y, ok)
		}
		a, b = b, a
	}
}

// P5.2: lists that are the same don't clash, with nil and empty records taken as the same.
func TestClashSame(t *testing.T) {
	for _, l := range some() {
		none(t, l, l)
		none(t, l, copyOf(l))
	}
	none(t, nil, [][]byte{})
	none(t, [][]byte{nil, {}}, [][]byte{{}, nil})
}

// P5.2: lists that haven't one head don't clash: of other lengths, or with another record at the first, a middle or the last place.
func TestClashOtherHeads(t *testing.T) {
	l := list("a", "b", "c", "d")
	for n := range l {
		none(t, l, l[:n])
		none(t, l, l[n+1:])
		for _, s := range []string{"", "x", "ab", "a\x00"} {
			other := copyOf(l)
			other[n] = []byte(s)
			none(t, l, other)
		}
	}
	none(t, nil, list(""))
	none(t, list(""), list("", ""))
	none(t, list("a", "b"), list("b", "a"))
	none(t, list("ab", "c"), list("a", "bc"))
}

// P5.3: of two lists with the same head, either they are the same, or two texts are told: of all short lists no two have one head.
func TestSameHeadSameList(t *testing.T) {
	all := lists(3, "", "a", "b", "ab")
	for _, a := range all {
		for _, b := range all {
			one := chain.All(a...) == chain.All(b...)
			_, _, ok := chain.Clash(a, b)
			if ok || one != same(a, b) || chain.Check(headOf(a), b) != one {
				t.Fatalf("%q and %q: one head %v, clash %v", a, b, one, ok)
			}
		}
	}
}

// R5: what is handed in is left as it is, its spare room too, and isn't kept.
func TestArguments(t *testing.T) {
	room := []byte("the records' room")
	l := [][]byte{room[:3], room[3:3], nil, room[4:8], []byte("spare")}
	before := copyOf(l)
	whole := bytes.Clone(room)
	given := l[:4]
	h := chain.All(given...)
	chain.Next(h, given[0])
	chain.Check(h, given)
	p, _ := chain.Prove(given, 1)
	chain.Proves(h, 1, given[1], p)
	chain.Proves(h, 1, nil, chain.Proof{Before: headOf(l[:1]), Records: given[1:]})
	chain.Clash(given, given)
	chain.Clash(given, l[1:])
	if !reflect.DeepEqual(l, before) || !bytes.Equal(room, whole) {
		t.Errorf("what was handed in is %q now, in %q", l, room)
	}
	clear(room)
	if !same(p.Records, before[1:4]) {
		t.Errorf("a proof has kept what was handed in: %q", p.Records)
	}
}

// R5: what is answered is new memory, and no two records of it share any.
func TestAnswers(t *testing.T) {
	r := []byte("same")
	l := [][]byte{r, r, r[:2], r[2:], []byte("end")}
	p, _ := chain.Prove(l, 0)
	q, _ := chain.Prove(l, 0)
	for i := range p.Records {
		clear(p.Records[i])
		_ = append(p.Records[i], "more"...)
		for k := i + 1; k < len(l); k++ {
			if !bytes.Equal(p.Records[k], l[k]) {
				t.Fatalf("the records %d and %d of a proof share memory", i, k)
			}
		}
	}
	p.Records[0] = nil
	_ = append(p.Records[:1], nil, nil)
	if !same(l, list("same", "same", "sa", "me", "end")) || !same(q.Records, l) {
		t.Errorf("a proof shares memory with its list, or with another proof: %q, %q", l, q.Records)
	}
}

// P5.1, P5.2: any records, against the chapter's words.
func TestAny(t *testing.T) {
	r := rand.New(rand.NewSource(5))
	for range 300 {
		l := make([][]byte, 1+r.Intn(12))
		for i := range l {
			l[i] = make([]byte, r.Intn(200))
			r.Read(l[i])
		}
		h, place := headOf(l), r.Intn(len(l))
		p, e := chain.Prove(l, place)
		if chain.All(l...) != h || e != api.OK || !chain.Proves(h, place, l[place], p) {
			t.Fatalf("%d records, at %d: %d", len(l), place, e)
		}
		other := copyOf(l)
		other[place] = append(other[place], 0)
		q, _ := chain.Prove(other, place)
		if chain.Check(h, other) || chain.Proves(h, place, other[place], q) || chain.Proves(h, place, l[place], q) {
			t.Fatalf("%d records with a nought more, at %d", len(l), place)
		}
		none(t, l, other)
	}
}
