package chain

import (
	"bytes"
	"slices"

	"gatepost/api"
	"gatepost/sha"
)

// linker makes links as layer 1 does. It is handed in, as nobody has two texts with one SHA-256: what comes of such texts can be tried only with links that are weaker.
type linker func(prev api.Hash, record []byte) api.Hash

// Clash is, of two lists that have one head and aren't the same, the two texts that were linked at the last place at which the lists, or the heads ahead, aren't the same.
func Clash(a, b [][]byte) ([]byte, []byte, bool) {
	return clash(a, b, sha.Link)
}

// clash is Clash, with links by that linker.
func clash(a, b [][]byte, link linker) ([]byte, []byte, bool) {
	// Heads of other counts aren't the same. From here on both counts are, at every place.
	if len(a) != len(b) {
		return nil, nil, false
	}
	var aheadA, aheadB, lastA, lastB api.Hash
	last := -1
	for i := range a {
		if aheadA != aheadB || !bytes.Equal(a[i], b[i]) {
			last, lastA, lastB = i, aheadA, aheadB
		}
		aheadA, aheadB = link(aheadA, a[i]), link(aheadB, b[i])
	}
	if last < 0 || aheadA != aheadB {
		return nil, nil, false
	}
	return linked(lastA, a[last]), linked(lastB, b[last]), true
}

// linked is the text whose fingerprint is the link from prev to the record.
func linked(prev api.Hash, record []byte) []byte {
	n := uint32(len(record))
	length := []byte{byte(n >> 24), byte(n >> 16), byte(n >> 8), byte(n)}
	return slices.Concat(prev[:], length, record)
}
