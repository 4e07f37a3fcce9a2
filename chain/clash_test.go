package chain_test

import (
	"bytes"
	"testing"

	"gatepost/api"
	"gatepost/chain"
	"gatepost/sha"
)

// weaken is a fingerprint with all but its first two bits taken out.
func weaken(h api.Hash) api.Hash {
	return api.Hash{h[0] >> 6}
}

// weakLink is a link of which there are but four.
func weakLink(prev api.Hash, record []byte) api.Hash {
	return weaken(sha.Link(prev, record))
}

// oneLink is a link that is always the same.
func oneLink(prev api.Hash, record []byte) api.Hash {
	return api.Hash{9}
}

// lastLink is a link that has the record's last byte alone: it forgets what is ahead, but not who came last.
func lastLink(prev api.Hash, record []byte) api.Hash {
	if len(record) == 0 {
		return api.Hash{}
	}
	return api.Hash{record[len(record)-1]}
}

// sumLink is a link that adds up all bytes, so that what differs at one place may be made good at another.
func sumLink(prev api.Hash, record []byte) api.Hash {
	for _, b := range record {
		prev[0] += b
	}
	return prev
}

// text is what layer 1's words say is linked, with a length below 256.
func text(prev byte, record string) string {
	return string([]byte{prev}) + string(make([]byte, 31)) + "\x00\x00\x00" + string([]byte{byte(len(record))}) + record
}

// P5.2: lists that clash, with the texts of the last place at which they, or the heads ahead, aren't the same.
func TestClashTold(t *testing.T) {
	for i, c := range []struct {
		a, b [][]byte
		link chain.Linker
		x, y string
	}{
		{list("a"), list("b"), oneLink, text(0, "a"), text(0, "b")},
		{list(""), list("b"), oneLink, text(0, ""), text(0, "b")},
		// At the first place alone.
		{list("a", "r", "r"), list("b", "r", "r"), oneLink, text(0, "a"), text(0, "b")},
		// At the last place alone.
		{list("r", "r", "a"), list("r", "r", "b"), oneLink, text(9, "a"), text(9, "b")},
		// At the first and the last: the last one is told.
		{list("a", "r", "c"), list("b", "r", "d"), oneLink, text(9, "c"), text(9, "d")},
		// In the midst, with one head ahead, and the same behind.
		{list("r", "a", "r"), list("r", "b", "r"), oneLink, text(9, "a"), text(9, "b")},
		// The records are the same at the last place, but the heads ahead of it aren't.
		{list("a", "r"), list("b", "r"), lastLink, text('a', "r"), text('b', "r")},
		{list("a", "r", "s"), list("b", "r", "s"), lastLink, text('a', "r"), text('b', "r")},
		// Neither the records nor the heads ahead are the same.
		{list("a", "cz"), list("b", "dz"), lastLink, text('a', "cz"), text('b', "dz")},
		// Apart for a while, over records that are the same, and together again.
		{list("\x01", "r", "\x03", "s"), list("\x02", "r", "\x02", "s"), sumLink, text(1+'r', "\x03"), text(2+'r', "\x02")},
		// The same bytes, cut otherwise.
		{list("ab", "c"), list("a", "bc"), sumLink, text('a'+'b', "c"), text('a', "bc")},
	} {
		a, b, x, y := c.a, c.b, c.x, c.y
		for range 2 {
			p, q, ok := chain.ClashBy(a, b, c.link)
			if !ok || string(p) != x || string(q) != y {
				t.Errorf("%d: %q, %q, %v, not %q, %q", i, p, q, ok, x, y)
			}
			a, b, x, y = b, a, y, x
		}
	}
}

// P5.2: with links that are weak too, nothing is told of lists that are the same, or of other lengths, or haven't one head.
func TestClashNotTold(t *testing.T) {
	for i, c := range []struct {
		a, b [][]byte
		link chain.Linker
	}{
		{nil, nil, oneLink},
		{nil, [][]byte{}, oneLink},
		{list("a"), list("a"), oneLink},
		{[][]byte{nil, {}}, [][]byte{{}, nil}, oneLink},
		{list("a", "b"), list("a", "b"), lastLink},
		{nil, list("a"), oneLink},
		{nil, list(""), lastLink},
		{list("a"), list("a", "a"), oneLink},
		{list("b", "a"), list("a"), lastLink},
		{list("a"), list("b"), lastLink},
		{list("r", "a"), list("r", "b"), lastLink},
		{list("a", "r"), list("b", "r"), sumLink},
	} {
		for range 2 {
			if p, q, ok := chain.ClashBy(c.a, c.b, c.link); ok || len(p) != 0 || len(q) != 0 {
				t.Errorf("%d: %q, %q, %v", i, p, q, ok)
			}
			c.a, c.b = c.b, c.a
		}
	}
}

// aheads is the links ahead of each place, and the one behind all.
func aheads(l [][]byte, link chain.Linker) []api.Hash {
	h := []api.Hash{{}}
	for i, r := range l {
		h = append(h, link(h[i], r))
	}
	return h
}

// lastApart is the last place at which lists of one length, or what is ahead, aren't the same; below 0, if there is none.
func lastApart(a, b [][]byte, ha, hb []api.Hash) int {
	i := len(a) - 1
	for i >= 0 && bytes.Equal(a[i], b[i]) && ha[i] == hb[i] {
		i--
	}
	return i
}

// P5.2, P5.3: of all short lists with one weak head, each two are the same, or two texts are told that aren't, with one fingerprint: those of the last place.
func TestClashWeak(t *testing.T) {
	all := lists(4, "", "a", "bb")
	told := 0
	for _, a := range all {
		ha := aheads(a, weakLink)
		for _, b := range all {
			hb := aheads(b, weakLink)
			x, y, ok := chain.ClashBy(a, b, weakLink)
			one := len(a) == len(b) && ha[len(a)] == hb[len(b)]
			if ok != (one && !same(a, b)) {
				t.Fatalf("%q and %q: one head %v, told %v", a, b, one, ok)
			}
			if !ok {
				continue
			}
			told++
			i := lastApart(a, b, ha, hb)
			if string(x) != text(ha[i][0], string(a[i])) || string(y) != text(hb[i][0], string(b[i])) {
				t.Fatalf("%q and %q: %q, %q aren't of the place %d", a, b, x, y, i)
			}
			if bytes.Equal(x, y) || weaken(sha.Of(x)) != weaken(sha.Of(y)) {
				t.Fatalf("%q and %q: %q, %q are the same, or haven't one fingerprint", a, b, x, y)
			}
		}
	}
	if told == 0 {
		t.Error("no two lists clash")
	}
}

// P5.2: the fingerprint of what was linked is layer 1's link, at lengths that need each of the four bytes.
func TestLinked(t *testing.T) {
	var some api.Hash
	for i := range some {
		some[i] = byte(i + 1)
	}
	long := bytes.Repeat([]byte("0123456789abcde"), 1<<21)
	for _, n := range []int{0, 1, 27, 28, 29, 255, 256, 257, api.MaxBytes, 65535, 65536, 0x010203, 1<<24 + 0x010203} {
		for _, prev := range []api.Hash{{}, some} {
			l := chain.Linked(prev, long[:n])
			if len(l) != 36+n || sha.Of(l) != sha.Link(prev, long[:n]) {
				t.Errorf("what is linked to %d bytes", n)
			}
		}
	}
}

// R5: the texts are new memory, each by itself, and the lists are left as they are.
func TestClashMemory(t *testing.T) {
	room := []byte("abcdefgh")
	a, b := [][]byte{room[:2], room[2:4]}, [][]byte{room[:2], room[4:6]}
	x, y, ok := chain.ClashBy(a, b, oneLink)
	if !ok {
		t.Fatal("nothing is told")
	}
	clear(x)
	_ = append(x, "more"...)
	if string(y) != text(9, "ef") || string(room) != "abcdefgh" {
		t.Errorf("a text shares memory: %q, %q", y, room)
	}
	clear(room)
	if string(y) != text(9, "ef") {
		t.Errorf("a text has kept a record: %q", y)
	}
}
