package book_test

import (
	"bytes"
	"encoding/binary"
	"math/rand"
	"testing"

	"gatepost/api"
	"gatepost/book"
	"gatepost/disk"
)

// stands is whether, by the chapter's words, a record of so many parts and of just that generation stands in these sectors with that number; and its bytes.
func stands(sectors [][]byte, number, generation, count int) ([]byte, bool) {
	if count > len(sectors) {
		return nil, false
	}
	var record []byte
	for i, s := range sectors[:count] {
		length := int(binary.BigEndian.Uint16(s[10:]))
		switch {
		case binary.BigEndian.Uint32(s) != uint32(number),
			binary.BigEndian.Uint32(s[4:]) != uint32(generation),
			int(s[8]) != i,
			int(s[9]) != count,
			length > 52,
			i+1 < count && length < 52,
			len(bytes.Trim(s[12+length:], "\x00")) > 0:
			return nil, false
		}
		record = append(record, s[12:12+length]...)
	}
	return record, true
}

// read is what is read of sectors, and how many are left: each count and each generation is tried.
func read(sectors [][]byte, highest int) ([][]byte, int) {
	var l [][]byte
	for g := 1; g <= highest; g++ {
		for count := 1; count <= 79; count++ {
			if r, ok := stands(sectors, len(l)+1, g, count); ok {
				if len(r) > api.MaxBytes {
					return l, len(sectors)
				}
				l = append(l, r)
				sectors = sectors[count:]
				g--
				break
			}
		}
	}
	return l, len(sectors)
}

// scrawl is a disk of records with a few bytes of it changed.
func scrawl(t *testing.T, r *rand.Rand) *disk.Disk {
	t.Helper()
	d := disk.New(16)
	at, g := 0, 1
	for number := 1; at < 16; number++ {
		g = min(max(g+(r.Intn(5)-1)/2, 1), 6)
		l := pages(number, g, text(r.Intn(9), r.Intn(130)))
		for range (r.Intn(8) + 1) / 8 {
			p := &l[r.Intn(len(l))]
			change := []func(){
				func() { p.number += r.Intn(3) - 1 },
				func() { p.generation = max(p.generation+r.Intn(3)-1, 0) },
				func() { p.place = max(p.place+r.Intn(3)-1, 0) },
				func() { p.count = max(p.count+r.Intn(3)-1, 0) },
				func() { p.length = max(p.length+r.Intn(3)-1, 0) },
				func() { p.rest = append(bytes.Clone(p.rest), byte(r.Intn(2)))[:min(len(p.rest)+1, 52)] },
			}
			change[r.Intn(len(change))]()
		}
		lay(t, d, at, l[:min(len(l), 16-at)]...)
		at += len(l)
	}
	return d
}

// P6.1: on disks of which some sectors say otherwise, what is read is what the chapter's words read.
func TestOpenScrawls(t *testing.T) {
	r := rand.New(rand.NewSource(61))
	some := 0
	for round := range 4000 {
		d := scrawl(t, r)
		var sectors [][]byte
		for i := range d.Sectors() {
			s, _ := d.Read(i)
			sectors = append(sectors, s)
		}
		records, room := read(sectors, 9)
		tells(t, opened(t, d), room, records...)
		if t.Failed() {
			t.Fatalf("round %d: %v", round, sectors)
		}
		some += len(records)
	}
	if some < 4000 {
		t.Errorf("only %d records were read in all", some)
	}
}

// P6.1: whatever bytes stand on a disk, Open ends, and its book tells what stands there.
func TestOpenNoise(t *testing.T) {
	r := rand.New(rand.NewSource(62))
	for range 2000 {
		d := disk.New(r.Intn(6))
		for i := range d.Sectors() {
			s := make([]byte, api.Sector)
			for j := range s {
				s[j] = byte(r.Intn(3))
				if j < 4 || j > 11 || r.Intn(2) == 0 {
					s[j] = 0
				}
			}
			s[3] = byte(i + r.Intn(2))
			if r.Intn(30) == 0 {
				r.Read(s)
			}
			if e := d.Write(i, s); e != api.OK {
				t.Fatal(e)
			}
		}
		b, e := book.Open(d)
		if e != api.OK {
			t.Fatalf("Open is %d", e)
		}
		tells(t, b, b.Room(), b.Records()...)
	}
}
