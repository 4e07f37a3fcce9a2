package book_test

import (
	"bytes"
	"slices"
	"testing"

	"gatepost/api"
	"gatepost/book"
	"gatepost/disk"
)

// P6.2: a record's parts are written one behind the other, with what the chapter says of each, and flushed.
func TestAppendLayout(t *testing.T) {
	for _, n := range []int{0, 1, 51, 52, 53, 104, 105, 4056, 4057, 4095, 4096} {
		d := disk.New(100)
		b := opened(t, d)
		one, two, three := text(1, 3), text(2, n), text(3, 60)
		takes(t, b, one, two, three)
		l := slices.Concat(pages(1, 1, one), pages(2, 1, two), pages(3, 1, three))
		shows(t, d, 0, l...)
		tells(t, b, 100-len(l), one, two, three)
		if d.Waits() != 0 {
			t.Errorf("%d bytes: %d wait", n, d.Waits())
		}
		d.Crash()
		tells(t, opened(t, d), 100-len(l), one, two, three)
	}
}

// P6.2: what a crash left behind a part is written over with noughts.
func TestAppendNoughtsBehind(t *testing.T) {
	full := page{number: 9, generation: 1, rest: bytes.Repeat([]byte{255}, 52)}
	d := laid(t, 3, full, full, full)
	takes(t, opened(t, d), text(1, 55))
	shows(t, d, 0, pages(1, 2, text(1, 55))...)
	shows(t, d, 2, full)
}

// P6.2: only a record's own sectors are written, in order: one write each.
func TestAppendInOrder(t *testing.T) {
	for n := range 4 {
		d := disk.New(6)
		b := opened(t, d)
		takes(t, b, text(1, 1))
		d.Fuse(n)
		if e := b.Append(text(2, 150)); e != api.ErrLost {
			t.Errorf("fuse %d: Append is %d", n, e)
		}
		if d.Waits() != n {
			t.Errorf("fuse %d: %d wait", n, d.Waits())
		}
		d.Crash(true, true, true, true)
		shows(t, d, 1, append(pages(2, 1, text(2, 150))[:n:n], make([]page, 5-n)...)...)
	}
}

// P6.2: a fuse that is longer than the record lets it be.
func TestAppendFuseLeft(t *testing.T) {
	d := disk.New(6)
	b := opened(t, d)
	d.Fuse(4)
	takes(t, b, text(1, 150))
	if e := b.Append(nil); e != api.ErrLost || !b.Over() {
		t.Errorf("Append is %d", e)
	}
	tells(t, b, 3, text(1, 150))
}

// P6.2: a record of more than MaxBytes is too long, whatever room there is, and nothing is changed.
func TestAppendLong(t *testing.T) {
	for _, sectors := range []int{0, 1, 79, 200} {
		for _, n := range []int{api.MaxBytes + 1, api.MaxBytes + 12, api.MaxBytes + 13, 2 * api.MaxBytes} {
			d := disk.New(sectors)
			b := opened(t, d)
			before := seen(t, d)
			if e := b.Append(text(1, n)); e != api.ErrLong || b.Over() {
				t.Errorf("%d bytes on %d sectors: Append is %d", n, sectors, e)
			}
			tells(t, b, sectors)
			if d.Waits() != 0 || !bytes.Equal(seen(t, d), before) {
				t.Errorf("%d bytes: written", n)
			}
		}
	}
}

// P6.2: a disk may be filled to its last sector; with fewer sectors left than a record has parts nothing is changed, and a shorter one may still be appended.
func TestAppendFull(t *testing.T) {
	for left := range 4 {
		d := disk.New(2 + left)
		b := opened(t, d)
		takes(t, b, text(1, 70))
		before := seen(t, d)
		for n := left*52 + 1; n < left*52+60; n++ {
			if e := b.Append(text(2, n)); e != api.ErrFull || b.Over() {
				t.Fatalf("%d bytes with %d left: Append is %d", n, left, e)
			}
		}
		if e := b.Append(make([]byte, api.MaxBytes)); e != api.ErrFull {
			t.Errorf("Append is %d", e)
		}
		tells(t, b, left, text(1, 70))
		if d.Waits() != 0 || !bytes.Equal(seen(t, d), before) {
			t.Error("written")
		}
		if left == 0 {
			continue
		}
		takes(t, b, text(3, left*52))
		tells(t, b, 0, text(1, 70), text(3, left*52))
		tells(t, opened(t, d), 0, text(1, 70), text(3, left*52))
	}
}

// P6.2: an empty record needs a sector too.
func TestAppendEmptyFull(t *testing.T) {
	for _, sectors := range []int{0, 1, 3} {
		b := opened(t, disk.New(sectors))
		for range sectors {
			takes(t, b, nil)
		}
		for _, r := range [][]byte{nil, {}} {
			if e := b.Append(r); e != api.ErrFull || b.Over() {
				t.Errorf("%d sectors: Append is %d", sectors, e)
			}
		}
		tells(t, b, 0, make([][]byte, sectors)...)
	}
}

// P6.2: a record of MaxBytes just fits into 79 sectors, and not into 78.
func TestAppendMost(t *testing.T) {
	b := opened(t, disk.New(79))
	takes(t, b, text(1, api.MaxBytes))
	tells(t, b, 0, text(1, api.MaxBytes))
	b = opened(t, disk.New(78))
	if e := b.Append(text(1, api.MaxBytes)); e != api.ErrFull {
		t.Errorf("Append is %d", e)
	}
}

// P6.2: the greatest disk takes as many records as it has sectors.
func TestAppendMany(t *testing.T) {
	d := disk.New(api.MaxSectors)
	b := opened(t, d)
	var records [][]byte
	for i := range api.MaxSectors {
		records = append(records, text(i, i%53))
	}
	takes(t, b, records...)
	tells(t, b, 0, records...)
	tells(t, opened(t, d), 0, records...)
}

// P6.2: without power what is asked ahead of the disk is answered first, and doesn't end the book.
func TestAppendAheadOfDisk(t *testing.T) {
	d := disk.New(2)
	b := opened(t, d)
	d.Fuse(0)
	if e := b.Append(text(1, api.MaxBytes+1)); e != api.ErrLong || b.Over() {
		t.Errorf("Append is %d", e)
	}
	if e := b.Append(text(1, 105)); e != api.ErrFull || b.Over() {
		t.Errorf("Append is %d", e)
	}
	if e := b.Append(text(1, 104)); e != api.ErrLost || !b.Over() {
		t.Errorf("Append is %d", e)
	}
}

// P6.2: a book is over from the disk's error on, wherever in a record it comes, at the flush too; it keeps what it had, and doesn't come back with the power.
func TestAppendOver(t *testing.T) {
	for n := range 4 {
		d := disk.New(9)
		b := opened(t, d)
		takes(t, b, text(1, 60), nil)
		d.Fuse(n)
		if b.Over() {
			t.Error("over ahead of the disk's error")
		}
		if e := b.Append(text(2, 140)); e != api.ErrLost {
			t.Errorf("fuse %d: Append is %d", n, e)
		}
		for range 2 {
			if !b.Over() {
				t.Error("not over")
			}
			tells(t, b, 6, text(1, 60), nil)
			for _, r := range [][]byte{nil, text(1, 1), text(1, 1000), text(1, api.MaxBytes), text(1, api.MaxBytes+1)} {
				if e := b.Append(r); e != api.ErrLost {
					t.Errorf("fuse %d: Append of %d bytes to a book that is over is %d", n, len(r), e)
				}
			}
			d.Crash(true, true, true)
			if d.Waits() != 0 {
				t.Error("a book that is over writes")
			}
		}
	}
}

// P6.2: a book isn't over by a crash that it didn't meet.
func TestAppendBehindCrash(t *testing.T) {
	d := disk.New(4)
	b := opened(t, d)
	takes(t, b, text(1, 1))
	d.Fuse(0)
	d.Crash()
	takes(t, b, text(2, 2))
	tells(t, b, 2, text(1, 1), text(2, 2))
	tells(t, opened(t, d), 2, text(1, 1), text(2, 2))
}

// P6.2: a book whose disk has room, opened again, goes on behind its records, with the next number and a higher generation.
func TestAppendOpenedAgain(t *testing.T) {
	d := disk.New(10)
	var records [][]byte
	at := 0
	for i := range 5 {
		r := text(i, i*20)
		b := opened(t, d)
		takes(t, b, r)
		records = append(records, r)
		shows(t, d, at, pages(i+1, i+1, r)...)
		at += book.Parts(len(r))
		tells(t, b, 10-at, records...)
	}
}

// R5: what is handed in is left as it is, its spare room too, and isn't kept; what is answered is new memory.
func TestMemory(t *testing.T) {
	for _, n := range []int{0, 5, 52, 60} {
		b := opened(t, disk.New(5))
		spare := bytes.Repeat([]byte{9}, 200)
		copy(spare, text(1, n))
		before := bytes.Clone(spare)
		takes(t, b, spare[:n], text(2, 7))
		if !bytes.Equal(spare, before) {
			t.Error("Append changes what it is handed")
		}
		for i := range spare {
			spare[i] = 77
		}
		tells(t, b, 4-book.Parts(n), text(1, n), text(2, 7))

		l := b.Records()
		for _, r := range l {
			r = r[:cap(r)]
			for i := range r {
				r[i] = 88
			}
		}
		l[0], l[1] = nil, []byte("other")
		_ = append(l[:0], []byte("x"), []byte("y"), []byte("z"))
		tells(t, b, 4-book.Parts(n), text(1, n), text(2, 7))
		takes(t, b, text(3, 3))
		tells(t, b, 3-book.Parts(n), text(1, n), text(2, 7), text(3, 3))
	}
}

// R5: the records of a book that was opened are in memory of their own too.
func TestMemoryOpened(t *testing.T) {
	d := laid(t, 4, append(pages(1, 1, text(1, 60)), pages(2, 1, text(2, 8))...)...)
	b := opened(t, d)
	for _, r := range b.Records() {
		r = r[:cap(r)]
		for i := range r {
			r[i] = 88
		}
	}
	tells(t, b, 1, text(1, 60), text(2, 8))
	tells(t, opened(t, d), 1, text(1, 60), text(2, 8))
}

// R7: books on two disks don't hang on one another, and two of one disk each have what they read and appended.
func TestApart(t *testing.T) {
	d := disk.New(6)
	a, b := opened(t, d), opened(t, disk.New(4))
	takes(t, a, text(1, 60))
	takes(t, b, text(2, 6))
	c := opened(t, d)
	takes(t, c, text(3, 9))
	tells(t, a, 4, text(1, 60))
	tells(t, b, 3, text(2, 6))
	tells(t, c, 3, text(1, 60), text(3, 9))
	d.Fuse(0)
	if e := a.Append(nil); e != api.ErrLost || !a.Over() || b.Over() || c.Over() {
		t.Errorf("Append is %d; over: %v, %v, %v", e, a.Over(), b.Over(), c.Over())
	}
	takes(t, b, nil)
}

// R1: a Book that Open hasn't made has no disk, and no room.
func TestZeroBook(t *testing.T) {
	var b book.Book
	tells(t, &b, 0)
	if e := b.Append(nil); e != api.ErrFull || b.Over() {
		t.Errorf("Append is %d", e)
	}
	if e := b.Append(make([]byte, api.MaxBytes+1)); e != api.ErrLong {
		t.Errorf("Append is %d", e)
	}
}
