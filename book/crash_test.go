package book_test

import (
	"bytes"
	"math/rand"
	"testing"

	"gatepost/api"
	"gatepost/book"
	"gatepost/disk"
)

// picks is all picks of n truths.
func picks(n int) [][]bool {
	var l [][]bool
	for mask := range 1 << n {
		p := make([]bool, n)
		for i := range p {
			p[i] = mask>>i&1 == 1
		}
		l = append(l, p)
	}
	return l
}

// cutOff is a disk with some records, and one more that was cut off after so many writes, with just these kept.
func cutOff(t *testing.T, records [][]byte, more []byte, fuse int, pick []bool) *disk.Disk {
	t.Helper()
	d := disk.New(24)
	b := opened(t, d)
	takes(t, b, records...)
	cut(t, d, b, more, fuse, pick)
	return d
}

// cut cuts a record off after so many writes, with just these kept.
func cut(t *testing.T, d *disk.Disk, b *book.Book, more []byte, fuse int, pick []bool) {
	t.Helper()
	d.Fuse(fuse)
	if e := b.Append(more); e != api.ErrLost || !b.Over() {
		t.Fatalf("fuse %d: Append is %d", fuse, e)
	}
	d.Crash(pick...)
}

// comesUp opens a disk's book, and again: it must be the same both times, and have the records, and the one that was cut off just if whole is true.
func comesUp(t *testing.T, d *disk.Disk, records [][]byte, more []byte, whole bool) (*book.Book, [][]byte) {
	t.Helper()
	if whole {
		records = append(records[:len(records):len(records)], more)
	}
	room := d.Sectors()
	for _, r := range records {
		room -= book.Parts(len(r))
	}
	before := seen(t, d)
	tells(t, opened(t, d), room, records...)
	b := opened(t, d)
	tells(t, b, room, records...)
	if !bytes.Equal(seen(t, d), before) {
		t.Error("Open writes")
	}
	return b, records
}

// all is whether a pick keeps n writes, each of them.
func all(n int, pick []bool) bool {
	for _, p := range pick {
		if p {
			n--
		}
	}
	return n == 0
}

// P6.3: after each of a record's writes, with whatever kept, all records that were answered OK are there, and the one that was cut off just if all its parts were kept; what is appended from there on is read behind them.
func TestCrashOnce(t *testing.T) {
	records := [][]byte{text(1, 60), nil, text(2, 52)}
	for _, n := range []int{0, 1, 52, 53, 104, 150, 200} {
		more := text(3, n)
		parts := book.Parts(n)
		for fuse := range parts + 1 {
			for _, pick := range picks(fuse) {
				d := cutOff(t, records, more, fuse, pick)
				b, has := comesUp(t, d, records, more, all(parts, pick))
				takes(t, b, text(4, 5))
				_, has = comesUp(t, d, append(has, text(4, 5)), nil, false)
				if t.Failed() {
					t.Fatalf("%d bytes, fuse %d, pick %v: %d records", n, fuse, pick, len(has))
				}
			}
		}
	}
}

// P6.3: what one crash left isn't taken for a part of what another left, nor for what was appended behind it.
func TestCrashTwice(t *testing.T) {
	records := [][]byte{text(1, 60)}
	for fuse := range 4 {
		for _, pick := range picks(fuse) {
			for again := range 4 {
				for _, pick2 := range picks(again) {
					d := cutOff(t, records, text(2, 150), fuse, pick)
					b, has := comesUp(t, d, records, text(2, 150), all(3, pick))
					cut(t, d, b, text(3, 150), again, pick2)
					b, has = comesUp(t, d, has, text(3, 150), all(3, pick2))
					for n := range 4 {
						takes(t, b, text(n, n*20))
						has = append(has, text(n, n*20))
						_, has = comesUp(t, d, has, nil, false)
					}
					if t.Failed() {
						t.Fatalf("fuse %d, pick %v, then %d, %v", fuse, pick, again, pick2)
					}
				}
			}
		}
	}
}

// P6.3: a record of the most parts, cut off, with one part or another forgotten.
func TestCrashMost(t *testing.T) {
	more := text(1, api.MaxBytes)
	for _, gone := range []int{-1, 0, 1, 40, 77, 78} {
		d := disk.New(100)
		pick := make([]bool, 79)
		for i := range pick {
			pick[i] = i != gone
		}
		cut(t, d, opened(t, d), more, 79, pick)
		b, has := comesUp(t, d, nil, more, gone < 0)
		takes(t, b, nil)
		comesUp(t, d, append(has, nil), nil, false)
	}
}

// P6.3: through many crashes at any place, with anything kept, what comes up is always the records that were answered OK, and perhaps those that were cut off.
func TestCrashesAtRandom(t *testing.T) {
	r := rand.New(rand.NewSource(6))
	for round := range 200 {
		d := disk.New(120)
		var has [][]byte
		for range 12 {
			b, e := book.Open(d)
			if e != api.OK {
				t.Fatalf("Open: %d", e)
			}
			for range r.Intn(3) {
				m := text(r.Intn(100), r.Intn(120))
				if b.Append(m) == api.OK {
					has = append(has, m)
				}
			}
			m := text(r.Intn(100), r.Intn(300))
			parts := book.Parts(len(m))
			if parts > b.Room() {
				break
			}
			fuse := r.Intn(parts + 1)
			pick := make([]bool, fuse)
			for i := range pick {
				pick[i] = r.Intn(5) > 0
			}
			cut(t, d, b, m, fuse, pick)
			_, has = comesUp(t, d, has, m, all(parts, pick))
		}
		if t.Failed() {
			t.Fatalf("round %d", round)
		}
	}
}
