package book

import (
	"gatepost/api"
	"gatepost/codec"
)

const (
	// headSize is how many bytes of a sector its head takes: 4, 4, 1, 1 and 2.
	headSize = 12

	// partSize is how many bytes a part has at most: what the head leaves.
	partSize = api.Sector - headSize

	// mostParts is how many parts a record may have.
	mostParts = 79

	// lastGeneration is the one behind which no other can be written in four bytes.
	lastGeneration = 1<<32 - 1
)

// head is what a sector says of its part: whose it is, where among the record's parts, and how long.
type head struct {
	number     int
	generation int
	place      int
	count      int
	length     int
}

// sector is a head, and all that stands behind it: the part, with noughts behind that, if it is one.
type sector struct {
	head
	rest []byte
}

// readSector is a sector of a disk's bytes. Whether what it says holds isn't asked here: any bytes may stand on a disk.
func readSector(b []byte) sector {
	var s sector
	i := codec.Read(b)
	s.read(i)
	s.rest = i.Raw(partSize)
	return s
}

// bytes is what is written on a disk.
func (s sector) bytes() []byte {
	var o codec.Out
	s.write(&o)
	o.Raw(s.rest)
	o.Raw(make([]byte, partSize-len(s.rest)))
	b, _ := o.End()
	return b
}

// stands is whether the sector has the part at that place of the record that begins with first.
func (s sector) stands(first head, place int) bool {
	return s.belongs(first, place) && s.fits() && noughts(s.rest[s.length:])
}

// part is the part's own bytes, of a sector that stands.
func (s sector) part() []byte {
	return s.rest[:s.length]
}

// read takes the head's numbers, in their order on the disk.
func (h *head) read(i *codec.In) {
	h.number = i.U32()
	h.generation = i.U32()
	h.place = i.U8()
	h.count = i.U8()
	h.length = i.U16()
}

// write puts them there in the same order.
func (h head) write(o *codec.Out) {
	o.U32(h.number)
	o.U32(h.generation)
	o.U8(h.place)
	o.U8(h.count)
	o.U16(h.length)
}

// begins is whether a record of that number, and of that generation at least, may begin here.
func (h head) begins(number, least int) bool {
	return h.number == number && h.generation >= least && 1 <= h.count && h.count <= mostParts
}

// belongs is whether the head is of the same record as first, and of that place in it.
func (h head) belongs(first head, place int) bool {
	first.place, first.length = place, h.length
	return h == first
}

// fits is whether the part is as long as it may be: only a record's last one may have fewer bytes than there is room for.
func (h head) fits() bool {
	if h.place < h.count-1 {
		return h.length == partSize
	}
	return h.length <= partSize
}

// noughts is whether nothing else stands there.
func noughts(b []byte) bool {
	for _, c := range b {
		if c != 0 {
			return false
		}
	}
	return true
}
