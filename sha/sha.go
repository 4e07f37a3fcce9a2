// Package sha is layer 1: fingerprints of bytes, and the links that chains are made of. See shared/doc/01-sha.md.
package sha

import (
	"gatepost/api"
)

// Stream takes bytes, some now, some later. A zero Stream took none, as New's.
type Stream struct {
	digest
}

// New is a stream of no bytes.
func New() *Stream {
	return &Stream{}
}

// Write takes the parts, one behind the other.
func (s *Stream) Write(parts ...[]byte) {
	for _, part := range parts {
		s.take(part)
	}
}

// Sum is the fingerprint of all that was taken so far.
func (s *Stream) Sum() api.Hash {
	// The padding goes into a copy, so that the stream can take more behind it.
	last := s.digest
	return last.finish()
}

// Size is how many bytes were taken.
func (s *Stream) Size() uint64 {
	return s.size
}

// Clone is a stream that took the same, and goes on by itself.
func (s *Stream) Clone() *Stream {
	// A digest has arrays and numbers alone: its copy shares nothing with it.
	return &Stream{digest: s.digest}
}

// Of is the fingerprint of all parts, one behind the other.
func Of(parts ...[]byte) api.Hash {
	s := New()
	s.Write(parts...)
	return s.Sum()
}

// Link is the fingerprint of prev, the record's length in four bytes, and the record.
func Link(prev api.Hash, record []byte) api.Hash {
	var length [4]byte
	putWord(length[:], uint32(len(record)))
	return Of(prev[:], length[:], record)
}
