package book_test

import (
	"bytes"
	"encoding/binary"
	"math"
	"slices"
	"testing"

	"gatepost/api"
	"gatepost/book"
	"gatepost/chain"
	"gatepost/disk"
)

const (
	least    = math.MinInt
	greatest = math.MaxInt
	last     = 1<<32 - 1 // the greatest number of four bytes
)

// page is a sector by the chapter's words, with any numbers in it.
type page struct {
	number, generation, place, count, length int
	rest                                     []byte
}

// bytes is the page as it stands on a disk.
func (p page) bytes() []byte {
	b := binary.BigEndian.AppendUint32(nil, uint32(p.number))
	b = binary.BigEndian.AppendUint32(b, uint32(p.generation))
	b = append(b, byte(p.place), byte(p.count))
	b = binary.BigEndian.AppendUint16(b, uint16(p.length))
	b = append(b, p.rest...)
	return append(b, make([]byte, api.Sector-len(b))...)
}

// pages is a record's sectors by the chapter's words.
func pages(number, generation int, record []byte) []page {
	var l []page
	for at := 0; at == 0 || at < len(record); at += 52 {
		part := record[at:min(at+52, len(record))]
		l = append(l, page{number, generation, len(l), 0, len(part), part})
	}
	for i := range l {
		l[i].count = len(l)
	}
	return l
}

// text is n bytes, none of them a nought, that hang on seed.
func text(seed, n int) []byte {
	b := make([]byte, n)
	for i := range b {
		b[i] = byte((seed*31+i*7)%255 + 1)
	}
	return b
}

// laid is a disk of so many sectors, with these pages from 0 on, flushed.
func laid(t *testing.T, sectors int, l ...page) *disk.Disk {
	t.Helper()
	d := disk.New(sectors)
	lay(t, d, 0, l...)
	return d
}

// lay writes pages from a sector on, and flushes them.
func lay(t *testing.T, d *disk.Disk, at int, l ...page) {
	t.Helper()
	for i, p := range l {
		if e := d.Write(at+i, p.bytes()); e != api.OK {
			t.Fatalf("Write(%d): %d", at+i, e)
		}
	}
	if e := d.Flush(); e != api.OK {
		t.Fatalf("Flush: %d", e)
	}
}

// opened must be OK.
func opened(t *testing.T, d *disk.Disk) *book.Book {
	t.Helper()
	b, e := book.Open(d)
	if e != api.OK || b == nil {
		t.Fatalf("Open: %v, %d", b, e)
	}
	return b
}

// takes appends records, of which each must be OK.
func takes(t *testing.T, b *book.Book, records ...[]byte) {
	t.Helper()
	for i, r := range records {
		if e := b.Append(r); e != api.OK {
			t.Fatalf("Append of %d bytes, at %d: %d", len(r), i, e)
		}
	}
}

// same is whether two lists have the same records.
func same(a, b [][]byte) bool {
	return slices.EqualFunc(a, b, bytes.Equal)
}

// tells is whether a book has just these records, their head, and that room.
func tells(t *testing.T, b *book.Book, room int, records ...[]byte) {
	t.Helper()
	if got := b.Records(); !same(got, records) {
		t.Errorf("Records: %d, %v, not %d, %v", len(got), got, len(records), records)
	}
	if got := b.Head(); got != chain.All(records...) {
		t.Errorf("Head is %v, not that of %d records", got, len(records))
	}
	if b.Room() != room {
		t.Errorf("Room is %d, not %d", b.Room(), room)
	}
}

// seen is all of a disk's bytes.
func seen(t *testing.T, d *disk.Disk) []byte {
	t.Helper()
	var all []byte
	for i := range d.Sectors() {
		b, e := d.Read(i)
		if e != api.OK {
			t.Fatalf("Read(%d): %d", i, e)
		}
		all = append(all, b...)
	}
	return all
}

// shows is whether a disk's sectors from one on are just these pages.
func shows(t *testing.T, d *disk.Disk, at int, l ...page) {
	t.Helper()
	for i, p := range l {
		if b, e := d.Read(at + i); e != api.OK || !bytes.Equal(b, p.bytes()) {
			t.Errorf("sector %d is %v, %d, not %v", at+i, b, e, p.bytes())
		}
	}
}

// P6.1: Parts is how many parts n bytes have.
func TestParts(t *testing.T) {
	for _, c := range []struct{ n, want int }{
		{0, 1}, {1, 1}, {51, 1}, {52, 1}, {53, 2}, {104, 2}, {105, 3}, {4056, 78}, {4057, 79}, {4096, 79}, {4108, 79}, {4109, 80},
		{-1, 0}, {-52, 0}, {-53, 0}, {least, 0}, {least + 1, 0},
		{greatest, greatest/52 + 1}, {greatest - 51, (greatest - 51 + 51) / 52},
	} {
		if got := book.Parts(c.n); got != c.want {
			t.Errorf("Parts(%d) is %d, not %d", c.n, got, c.want)
		}
	}
}

// P6.1: a disk on which nothing was written has a book of no records, that goes on at its first sector with the generation 1.
func TestOpenNoughts(t *testing.T) {
	for _, n := range []int{0, 1, 2, 79, api.MaxSectors} {
		d := disk.New(n)
		b := opened(t, d)
		tells(t, b, n)
		if b.Over() {
			t.Error("a book that was just opened is over")
		}
		if n == 0 {
			continue
		}
		takes(t, b, text(1, 5))
		shows(t, d, 0, pages(1, 1, text(1, 5))...)
	}
}

// P6.1: a disk that New hasn't made has no sectors, and so has its book.
func TestOpenZeroDisk(t *testing.T) {
	var d disk.Disk
	b := opened(t, &d)
	tells(t, b, 0)
	if e := b.Append(nil); e != api.ErrFull || b.Over() {
		t.Errorf("Append is %d", e)
	}
}

// P6.1: the disk's error comes ahead of ErrMany, and beside it there is no book.
func TestOpenLost(t *testing.T) {
	for _, g := range []int{0, 1, last} {
		d := laid(t, 3, page{number: 1, generation: g, count: 1})
		d.Fuse(0)
		if b, e := book.Open(d); e != api.ErrLost || b != nil {
			t.Errorf("generation %d: Open without power is %v, %d", g, b, e)
		}
	}
}

// P6.1: a generation of 2^32 - 1 in any sector, whatever else it says, is one too many.
func TestOpenMany(t *testing.T) {
	for at := range 4 {
		for _, p := range []page{
			{generation: last},
			{number: at + 1, generation: last, count: 1},
			{number: last, generation: last, place: 255, count: 255, length: 65535, rest: text(1, 52)},
		} {
			d := laid(t, 4, append(pages(1, 1, nil), pages(2, 1, nil)...)...)
			lay(t, d, at, p)
			if b, e := book.Open(d); e != api.ErrMany || b != nil {
				t.Errorf("sector %d: Open is %v, %d", at, b, e)
			}
		}
	}
}

// P6.1: only the second four bytes are a generation.
func TestOpenNotMany(t *testing.T) {
	d := laid(t, 2, page{number: last, place: 255, count: 255, length: 65535, rest: bytes.Repeat([]byte{255}, 52)})
	tells(t, opened(t, d), 2)
}

// P6.1: the generation is one more than the greatest: the last one may still be written, but such a disk can't be opened again.
func TestOpenLastGeneration(t *testing.T) {
	d := laid(t, 3, page{number: 1, generation: last - 1, count: 1, length: 2, rest: text(1, 2)})
	b := opened(t, d)
	tells(t, b, 2, text(1, 2))
	takes(t, b, text(2, 3))
	shows(t, d, 1, pages(2, last, text(2, 3))...)
	tells(t, b, 1, text(1, 2), text(2, 3))
	if b, e := book.Open(d); e != api.ErrMany || b != nil {
		t.Errorf("Open is %v, %d", b, e)
	}
}

// P6.1: the generation is above those of all sectors: of what was read, and of what doesn't stand, wherever it is.
func TestOpenGeneration(t *testing.T) {
	for at := range 5 {
		for _, g := range []int{2, 7, 255, 256, 1 << 16, 1 << 31} {
			d := laid(t, 5, pages(1, 1, text(1, 9))...)
			lay(t, d, at, page{number: 9, generation: g})
			b := opened(t, d)
			n := len(b.Records())
			takes(t, b, text(2, 60))
			shows(t, d, n, pages(n+1, g+1, text(2, 60))...)
			takes(t, b, text(3, 1))
			shows(t, d, n+2, pages(n+2, g+1, text(3, 1))...)
		}
	}
}

// P6.1: nothing is written: neither what is seen nor what waits is changed.
func TestOpenWritesNothing(t *testing.T) {
	d := laid(t, 5, slices.Concat(pages(1, 1, text(1, 60)), pages(2, 3, nil), pages(7, 2, text(2, 8)))...)
	for i, p := range pages(3, 3, text(3, 70)) {
		if e := d.Write(3+i, p.bytes()); e != api.OK {
			t.Fatal(e)
		}
	}
	d.Fuse(1)
	before := seen(t, d)
	tells(t, opened(t, d), 0, text(1, 60), nil, text(3, 70))
	tells(t, opened(t, d), 0, text(1, 60), nil, text(3, 70))
	if d.Waits() != 2 || !bytes.Equal(seen(t, d), before) {
		t.Errorf("%d wait; %v, not %v", d.Waits(), seen(t, d), before)
	}
	d.Crash()
	tells(t, opened(t, d), 2, text(1, 60), nil)
}

// P6.1: record behind record is read, of generations that never fall, however far they rise.
func TestOpenReads(t *testing.T) {
	records := [][]byte{text(1, 52), nil, text(2, 53), text(3, 200), text(4, 1)}
	var l []page
	for i, g := range []int{1, 1, 5, 5, last - 2} {
		l = append(l, pages(i+1, g, records[i])...)
	}
	tells(t, opened(t, laid(t, 20, l...)), 20-len(l), records...)
	tells(t, opened(t, laid(t, len(l), l...)), 0, records...)
}

// P6.1: noughts within a part are the part's, and are not taken off.
func TestOpenNoughtsWithin(t *testing.T) {
	records := [][]byte{make([]byte, 52), make([]byte, 3), append(make([]byte, 60), 1, 0), make([]byte, 104)}
	var l []page
	for i, r := range records {
		l = append(l, pages(i+1, 1, r)...)
	}
	tells(t, opened(t, laid(t, 10, l...)), 10-len(l), records...)
}

// spoil is something that a sector of the second record, of three parts, says otherwise.
type spoil struct {
	name   string
	change func(p *page)
}

// spoils is what keeps a record from standing, in whichever of its parts it is.
func spoils() []spoil {
	return []spoil{
		{"the number ahead", func(p *page) { p.number = 1 }},
		{"the number behind", func(p *page) { p.number = 3 }},
		{"no number", func(p *page) { p.number = 0 }},
		{"a number that is the same in its last bytes", func(p *page) { p.number += 1 << 24 }},
		{"one place more", func(p *page) { p.place++ }},
		{"another place", func(p *page) { p.place = 3 }},
		{"the last place", func(p *page) { p.place = 255 }},
		{"a count of none", func(p *page) { p.count = 0 }},
		{"one less", func(p *page) { p.count-- }},
		{"one more", func(p *page) { p.count++ }},
		{"a count of 80", func(p *page) { p.count = 80 }},
		{"a count of 255", func(p *page) { p.count = 255 }},
		{"the generation 0", func(p *page) { p.generation = 0 }},
		{"a generation below that of the record ahead", func(p *page) { p.generation = 3 }},
		{"a length of 53", func(p *page) { p.length = 53 }},
		{"a length of 65535", func(p *page) { p.length = 65535 }},
		{"a length that is the same in its last byte", func(p *page) { p.length += 256 }},
		{"a byte fewer", func(p *page) { p.length-- }},
		{"no bytes", func(p *page) { p.length = 0 }},
	}
}

// P6.1: a record of which one sector says another number, place, count, generation or length doesn't stand, nor is one read behind it.
func TestOpenSpoilt(t *testing.T) {
	one, two, three := text(1, 30), text(2, 120), text(3, 4)
	for _, s := range spoils() {
		for at := range 3 {
			l := slices.Concat(pages(1, 4, one), pages(2, 4, two), pages(3, 4, three))
			s.change(&l[1+at])
			d := laid(t, 100, l...)
			before := seen(t, d)
			tells(t, opened(t, d), 99, one)
			if t.Failed() {
				t.Fatalf("%s, in part %d", s.name, at)
			}
			if !bytes.Equal(seen(t, d), before) {
				t.Errorf("%s: written", s.name)
			}
		}
	}
}

// P6.1: parts of another generation than the first one's, higher or lower, are not of one record; all of them of a higher one are.
func TestOpenGenerationsWithin(t *testing.T) {
	two := text(2, 120)
	for mask := range 8 {
		for _, g := range []int{3, 5} {
			l := append(pages(1, 4, nil), pages(2, 4, two)...)
			for at := range 3 {
				if mask>>at&1 == 1 {
					l[1+at].generation = g
				}
			}
			want, room := [][]byte{nil}, 9
			if mask == 0 || mask == 7 && g == 5 {
				want, room = append(want, two), 6
			}
			tells(t, opened(t, laid(t, 10, l...)), room, want...)
		}
	}
}

// P6.1: whatever isn't a nought behind a part, at any place, keeps its record from standing.
func TestOpenBehindPart(t *testing.T) {
	for _, n := range []int{0, 1, 51, 52, 53, 100, 104} {
		l := append(pages(1, 1, text(1, 60)), pages(2, 1, text(2, n))...)
		room := 6 - len(l)
		tells(t, opened(t, laid(t, 6, l...)), room, text(1, 60), text(2, n))
		p := &l[len(l)-1]
		for at := p.length; at < 52; at++ {
			for _, c := range []byte{1, 128, 255} {
				p.rest = append(text(2, n)[n-p.length:], make([]byte, 52-p.length)...)
				p.rest[at] = c
				tells(t, opened(t, laid(t, 6, l...)), 4, text(1, 60))
			}
		}
	}
}

// P6.1: the first record has the number 1, and a generation of 1 or more.
func TestOpenFirst(t *testing.T) {
	for _, c := range []struct{ number, generation, want int }{
		{1, 1, 1}, {1, 2, 1}, {1, last - 1, 1}, {1, 0, 0}, {0, 1, 0}, {2, 1, 0}, {last, 1, 0}, {1 << 24, 1, 0},
	} {
		b := opened(t, laid(t, 2, pages(c.number, c.generation, text(1, 3))...))
		if len(b.Records()) != c.want || b.Room() != 2-c.want {
			t.Errorf("%v: %d records, room %d", c, len(b.Records()), b.Room())
		}
	}
}

// P6.1: a record must begin at sector 0, or right behind the one ahead.
func TestOpenGap(t *testing.T) {
	d := disk.New(6)
	lay(t, d, 1, pages(1, 1, text(1, 3))...)
	tells(t, opened(t, d), 6)
	lay(t, d, 0, pages(1, 1, text(2, 3))...)
	lay(t, d, 2, pages(2, 1, text(3, 3))...)
	tells(t, opened(t, d), 5, text(2, 3))
}

// P6.1: the last of several parts may have no bytes: it takes its sector all the same.
func TestOpenLastPartEmpty(t *testing.T) {
	l := pages(1, 1, text(1, 53))
	l[1].length, l[1].rest = 0, nil
	d := laid(t, 5, append(l, pages(2, 1, text(2, 2))...)...)
	b := opened(t, d)
	tells(t, b, 2, text(1, 52), text(2, 2))
	takes(t, b, nil)
	shows(t, d, 3, pages(3, 2, nil)...)
}

// P6.1: a record longer than MaxBytes isn't read, though its parts stand; one of just MaxBytes is.
func TestOpenLong(t *testing.T) {
	for _, c := range []struct{ n, want int }{{4056, 1}, {4057, 1}, {4095, 1}, {4096, 1}, {4097, 0}, {4108, 0}, {4109, 0}, {4160, 0}} {
		long := pages(2, 1, text(2, c.n))
		l := slices.Concat(pages(1, 1, nil), long, pages(3, 1, nil))
		b := opened(t, laid(t, 100, l...))
		if c.want == 1 {
			tells(t, b, 98-len(long), nil, text(2, c.n), nil)
		} else {
			tells(t, b, 99, nil)
		}
	}
}

// P6.1: a record whose parts go beyond the disk's end doesn't stand.
func TestOpenEnd(t *testing.T) {
	l := append(pages(1, 1, text(1, 9)), pages(2, 1, text(2, 150))...)
	tells(t, opened(t, laid(t, 4, l...)), 0, text(1, 9), text(2, 150))
	tells(t, opened(t, laid(t, 3, l[:3]...)), 2, text(1, 9))
	tells(t, opened(t, laid(t, 2, l[:2]...)), 1, text(1, 9))
	tells(t, opened(t, laid(t, 1, l[:1]...)), 0, text(1, 9))
}

// P6.1: each part but the last one has 52 bytes: a shorter one ahead keeps its record from standing, though nothing but noughts is behind it.
func TestOpenShortPart(t *testing.T) {
	for at := range 3 {
		for _, n := range []int{0, 1, 51} {
			l := append(pages(1, 1, text(1, 9)), pages(2, 1, text(2, 156))...)
			p := &l[1+at]
			p.length, p.rest = n, p.rest[:n]
			if at < 2 {
				tells(t, opened(t, laid(t, 6, l...)), 5, text(1, 9))
			} else {
				tells(t, opened(t, laid(t, 6, l...)), 2, text(1, 9), text(2, 104+n))
			}
		}
	}
}
