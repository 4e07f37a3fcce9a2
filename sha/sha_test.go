package sha_test

import (
	"bytes"
	"crypto/sha256"
	"encoding/binary"
	"encoding/hex"
	"reflect"
	"slices"
	"strings"
	"testing"

	"gatepost/api"
	"gatepost/sha"
)

// pattern is n bytes in which no two blocks are alike, so that one left out or taken twice is seen.
func pattern(n int) []byte {
	b := make([]byte, n)
	for i := range b {
		b[i] = byte(i*7 + i>>6*31 + i>>14*5)
	}
	return b
}

// want is the library's fingerprint, which the tests hold against ours.
func want(b []byte) api.Hash {
	return sha256.Sum256(b)
}

// edges are lengths round the places where the padding needs one block more, or a block gets whole.
func edges() []int {
	var l []int
	for _, at := range []int{0, 55, 56, 64, 119, 120, 128, 192, 256, 1024, 4096} {
		for n := max(0, at-2); n <= at+2; n++ {
			l = append(l, n)
		}
	}
	slices.Sort(l)
	return slices.Compact(l)
}

// The texts and fingerprints that NIST tells of SHA-256.
func TestOfKnown(t *testing.T) {
	for _, c := range []struct{ text, sum string }{
		{"", "e3b0c44298fc1c149afbf4c8996fb92427ae41e4649b934ca495991b7852b855"},
		{"abc", "ba7816bf8f01cfea414140de5dae2223b00361a396177a9cb410ff61f20015ad"},
		{"abcdbcdecdefdefgefghfghighijhijkijkljklmklmnlmnomnopnopq", "248d6a61d20638b8e5c026930c3e6039a33ce45964ff2167f6ecedd419db06c1"},
		{"abcdefghbcdefghicdefghijdefghijkefghijklfghijklmghijklmnhijklmnoijklmnopjklmnopqklmnopqrlmnopqrsmnopqrstnopqrstu", "cf5b16a778af8380036ce59e7b0492370b249b11e8f07a51afac45037afee9d1"},
		{strings.Repeat("a", 1000000), "cdc76e5c9914fb9281a1c7e284d73e67f1809a48a497200e046d39ccc7112cd0"},
	} {
		h := sha.Of([]byte(c.text))
		if got := hex.EncodeToString(h[:]); got != c.sum {
			t.Errorf("Of %d bytes: %s, not %s", len(c.text), got, c.sum)
		}
	}
}

// P1.1: no parts, empty parts and nil parts are all of no bytes.
func TestNoBytes(t *testing.T) {
	none := want(nil)
	for i, h := range []api.Hash{
		sha.Of(), sha.Of(nil), sha.Of([]byte{}), sha.Of(nil, []byte{}, nil), sha.Of([][]byte{}...), sha.New().Sum(),
	} {
		if h != none {
			t.Errorf("%d: %x", i, h)
		}
	}
	s := sha.New()
	s.Write()
	s.Write(nil, []byte{})
	if s.Sum() != none || s.Size() != 0 {
		t.Errorf("written nothing: %x, size %d", s.Sum(), s.Size())
	}
	if c := s.Clone(); c.Sum() != none || c.Size() != 0 {
		t.Errorf("a clone of nothing: %x, size %d", c.Sum(), c.Size())
	}
	var zero sha.Stream
	if zero.Sum() != none || zero.Size() != 0 || zero.Clone().Sum() != none {
		t.Error("a zero stream isn't one of no bytes")
	}
	zero.Write(pattern(65))
	if zero.Sum() != want(pattern(65)) {
		t.Error("a zero stream doesn't go on as New's")
	}
}

// P1.1: every length up to some blocks, and all edges beyond.
func TestOfLengths(t *testing.T) {
	all := pattern(5000)
	for n := range 400 {
		if sha.Of(all[:n]) != want(all[:n]) {
			t.Errorf("Of %d bytes", n)
		}
	}
	for _, n := range edges() {
		if sha.Of(all[:n]) != want(all[:n]) {
			t.Errorf("Of %d bytes", n)
		}
	}
}

// P1.1: each byte, and each place of a block, is told apart.
func TestOfBits(t *testing.T) {
	for n := 1; n <= 130; n++ {
		b := make([]byte, n)
		for i := range b {
			b[i] = 1 << (i % 8)
			if sha.Of(b) != want(b) {
				t.Fatalf("%d bytes with one at %d", n, i)
			}
			b[i] = 0
		}
	}
}

// P1.1, P1.3: the order of the parts counts, their borders don't.
func TestOfParts(t *testing.T) {
	a, b, c := []byte("gate"), []byte(""), pattern(100)
	whole := slices.Concat(a, b, c)
	if sha.Of(a, b, c) != want(whole) || sha.Of(a, nil, c) != want(whole) {
		t.Error("in order")
	}
	if sha.Of(c, a) == want(whole) || sha.Of(c, a) != want(slices.Concat(c, a)) {
		t.Error("in another order")
	}
}

// P1.3: cut at two places anywhere round the edges, in one Write, in three, and by Of.
func TestCuts(t *testing.T) {
	for _, n := range []int{0, 1, 63, 64, 65, 127, 128, 129, 200} {
		b := pattern(n)
		h := want(b)
		for i := range n + 1 {
			for j := i; j <= n; j++ {
				one, three := sha.New(), sha.New()
				one.Write(b[:i], b[i:j], b[j:])
				three.Write(b[:i])
				three.Write(b[i:j])
				three.Write(b[j:])
				if one.Sum() != h || three.Sum() != h || sha.Of(b[:i], b[i:j], b[j:]) != h {
					t.Fatalf("%d bytes cut at %d and %d", n, i, j)
				}
				if one.Size() != uint64(n) || three.Size() != uint64(n) {
					t.Fatalf("sizes %d and %d of %d bytes", one.Size(), three.Size(), n)
				}
			}
		}
	}
}

// P1.3: cut into pieces of one length, those of a block and round it among them.
func TestPieces(t *testing.T) {
	b := pattern(1000)
	h := want(b)
	for size := 1; size <= 140; size++ {
		s := sha.New()
		parts := slices.Collect(slices.Chunk(b, size))
		for _, p := range parts {
			s.Write(p)
		}
		if s.Sum() != h || sha.Of(parts...) != h {
			t.Errorf("pieces of %d", size)
		}
	}
}

// P1.1: Sum and Size at every length, with more taken behind each: asking changes nothing.
func TestSumGoesOn(t *testing.T) {
	b := pattern(300)
	s := sha.New()
	for n := range b {
		if s.Size() != uint64(n) || s.Sum() != want(b[:n]) || s.Sum() != want(b[:n]) || s.Size() != uint64(n) {
			t.Fatalf("behind %d bytes", n)
		}
		s.Write(b[n : n+1])
	}
	if s.Sum() != want(b) || s.Size() != 300 {
		t.Error("behind all")
	}
}

// P1.1: a clone took the same, and neither hears of what the other one takes.
func TestClone(t *testing.T) {
	b := pattern(400)
	for _, n := range []int{0, 1, 55, 56, 63, 64, 65, 119, 120, 127, 128, 130} {
		for _, more := range []int{0, 1, 8, 63, 64, 65, 200} {
			s := sha.New()
			s.Write(b[:n])
			c := s.Clone()
			if c == s || c.Sum() != want(b[:n]) || c.Size() != uint64(n) {
				t.Fatalf("a clone behind %d", n)
			}
			c.Write(b[n : n+more])
			if s.Sum() != want(b[:n]) || s.Size() != uint64(n) {
				t.Fatalf("the clone's %d behind %d are seen", more, n)
			}
			s.Write([]byte("other"))
			if c.Sum() != want(b[:n+more]) || c.Size() != uint64(n+more) {
				t.Fatalf("the first one's bytes are seen in the clone, %d behind %d", more, n)
			}
			if s.Sum() != want(slices.Concat(b[:n], []byte("other"))) || s.Size() != uint64(n+5) {
				t.Fatalf("the first one doesn't go on behind %d", n)
			}
		}
	}
}

// R7: streams don't hang on one another.
func TestStreamsApart(t *testing.T) {
	x, y := sha.New(), sha.New()
	a, b := pattern(150), pattern(151)[1:]
	for i := range a {
		x.Write(a[i : i+1])
		y.Write(b[i : i+1])
	}
	if x.Sum() != want(a) || y.Sum() != want(b) || sha.New().Sum() != want(nil) {
		t.Error("two streams in turn")
	}
}

// R5: what is handed in is left as it is, its spare room too, and isn't kept.
func TestArgumentsLeft(t *testing.T) {
	for _, n := range []int{0, 1, 32, 55, 56, 63, 64, 65, 100, 128} {
		room := pattern(300)
		part := room[10 : 10+n]
		parts := [][]byte{part, nil, part, room[200:201], part}[:3]
		s := sha.New()
		s.Write(parts...)
		sum := s.Sum()
		if sha.Of(parts...) != sum {
			t.Fatal("Of and Write aren't the same")
		}
		var prev api.Hash
		copy(prev[:], pattern(32))
		sha.Link(prev, part)
		if !bytes.Equal(room, pattern(300)) || !bytes.Equal(prev[:], pattern(32)) {
			t.Fatalf("bytes were changed, at %d", n)
		}
		if len(parts) != 3 || len(parts[0]) != n || parts[1] != nil || len(parts[2]) != n || len(parts[:5][3]) != 1 {
			t.Fatalf("the list of parts was changed, at %d", n)
		}
		clear(room)
		if s.Sum() != sum {
			t.Fatalf("bytes were kept, at %d", n)
		}
	}
}

// link is a link by its words, of the library's fingerprint.
func link(prev api.Hash, record []byte) api.Hash {
	b := slices.Clone(prev[:])
	b = binary.BigEndian.AppendUint32(b, uint32(len(record)))
	return want(append(b, record...))
}

// P1.2: records of all edges, the lengths that need two and three of the four bytes among them.
func TestLink(t *testing.T) {
	var first, some api.Hash
	copy(some[:], pattern(33)[1:])
	long := pattern(70000)
	lengths := append(edges(), 27, 28, 29, 91, 92, 93, 255, 257, 65535, 65536, 65537)
	for _, n := range lengths {
		for _, prev := range []api.Hash{first, some} {
			if sha.Link(prev, long[:n]) != link(prev, long[:n]) {
				t.Errorf("a link to %d bytes", n)
			}
		}
	}
	if sha.Link(some, nil) != link(some, nil) || sha.Link(some, []byte{}) != link(some, nil) {
		t.Error("a link to no bytes")
	}
}

// P1.2: the first of the four bytes counts too.
func TestLinkLong(t *testing.T) {
	if testing.Short() {
		t.Skip("takes 16 MiB")
	}
	record := pattern(1<<24 + 0x010203)
	if sha.Link(api.Hash{}, record) != link(api.Hash{}, record) {
		t.Error("a link to more than 2^24 bytes")
	}
}

// P1.2: every byte of the fingerprint ahead is linked, and links go on from one another.
func TestLinkAhead(t *testing.T) {
	seen := map[api.Hash]int{sha.Link(api.Hash{}, []byte("r")): -1}
	for i := range 32 {
		var prev api.Hash
		prev[i] = 1
		h := sha.Link(prev, []byte("r"))
		if at, ok := seen[h]; ok {
			t.Errorf("bytes %d and %d of what is ahead have one link", i, at)
		}
		seen[h] = i
	}
	two := sha.Link(sha.Link(api.Hash{}, []byte("a")), []byte("b"))
	if two != link(link(api.Hash{}, []byte("a")), []byte("b")) || two == sha.Link(api.Hash{}, []byte("ab")) {
		t.Error("two links")
	}
}

// P1.1: from 2^29 bytes on the length in bits has more than 32 of them.
func TestLongStream(t *testing.T) {
	if testing.Short() {
		t.Skip("takes 512 MiB")
	}
	part := pattern(1 << 20)
	s, w := sha.New(), sha256.New()
	for range 512 {
		s.Write(part)
		w.Write(part)
	}
	s.Write([]byte("end"))
	w.Write([]byte("end"))
	if h := s.Sum(); !bytes.Equal(h[:], w.Sum(nil)) || s.Size() != 1<<29+3 {
		t.Errorf("%x, size %d", h, s.Size())
	}
}

// The document's section 'Ways': a stream's words and its rest are in a part that is embedded.
func TestEmbedded(t *testing.T) {
	f := reflect.TypeOf(sha.Stream{}).Field(0)
	if !f.Anonymous || f.Type.Kind() != reflect.Struct {
		t.Errorf("%s isn't embedded as a value", f.Name)
	}
}

// P1.1, P1.3: any bytes, cut anywhere, asked and cloned on the way.
func FuzzStream(f *testing.F) {
	f.Add([]byte("gatepost"), uint16(3), uint16(2))
	f.Add(pattern(129), uint16(63), uint16(65))
	f.Fuzz(func(t *testing.T, b []byte, i, j uint16) {
		x := int(i) % (len(b) + 1)
		y := x + int(j)%(len(b)-x+1)
		s := sha.New()
		s.Write(b[:x])
		if s.Sum() != want(b[:x]) {
			t.Error("the first piece")
		}
		c := s.Clone()
		c.Write(b[x:y], b[y:])
		s.Write(b[y:])
		if c.Sum() != want(b) || s.Sum() != want(slices.Concat(b[:x], b[y:])) || c.Size() != uint64(len(b)) {
			t.Error("the pieces behind it")
		}
	})
}

func BenchmarkOf(b *testing.B) {
	part := pattern(1 << 16)
	b.SetBytes(int64(len(part)))
	for range b.N {
		sha.Of(part)
	}
}
