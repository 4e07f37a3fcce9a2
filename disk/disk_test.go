package disk_test

import (
	"bytes"
	"math"
	"slices"
	"testing"

	"gatepost/api"
	"gatepost/disk"
)

const (
	least    = math.MinInt
	greatest = math.MaxInt
)

// full is a sector's bytes, of which each hangs on n and on its place.
func full(n int) []byte {
	b := make([]byte, api.Sector)
	for i := range b {
		b[i] = byte(n*37 + i + 1)
	}
	return b
}

// noughts is what stands in a sector at first.
func noughts() []byte {
	return make([]byte, api.Sector)
}

// write must be OK.
func write(t *testing.T, d *disk.Disk, i int, b []byte) {
	t.Helper()
	if e := d.Write(i, b); e != api.OK {
		t.Fatalf("Write(%d): %d", i, e)
	}
}

// flush must be OK.
func flush(t *testing.T, d *disk.Disk) {
	t.Helper()
	if e := d.Flush(); e != api.OK {
		t.Fatalf("Flush: %d", e)
	}
}

// stands is whether the sectors from 0 on are just these.
func stands(t *testing.T, d *disk.Disk, sectors ...[]byte) {
	t.Helper()
	if d.Sectors() != len(sectors) {
		t.Fatalf("%d sectors, not %d", d.Sectors(), len(sectors))
	}
	for i, want := range sectors {
		if b, e := d.Read(i); e != api.OK || !bytes.Equal(b, want) {
			t.Errorf("Read(%d) is %v, %d, not %v", i, b, e, want)
		}
	}
}

// waits is whether so many writes wait.
func waits(t *testing.T, d *disk.Disk, n int) {
	t.Helper()
	if d.Waits() != n {
		t.Errorf("%d wait, not %d", d.Waits(), n)
	}
}

// lost is whether the power is gone: even of what is wrong beside.
func lost(t *testing.T, d *disk.Disk) {
	t.Helper()
	for _, i := range []int{0, d.Sectors() - 1, d.Sectors(), -1, least, greatest} {
		if b, e := d.Read(i); e != api.ErrLost || len(b) != 0 {
			t.Errorf("Read(%d) without power is %v, %d", i, b, e)
		}
		for _, b := range [][]byte{nil, full(1), full(1)[1:], append(full(1), 1)} {
			if e := d.Write(i, b); e != api.ErrLost {
				t.Errorf("Write(%d) of %d bytes without power is %d", i, len(b), e)
			}
		}
	}
	if e := d.Flush(); e != api.ErrLost {
		t.Errorf("Flush without power is %d", e)
	}
}

// P4.1: as many sectors as asked, at least 0, at most MaxSectors, all noughts, and none waits.
func TestNew(t *testing.T) {
	for _, c := range []struct{ asked, had int }{
		{least, 0}, {-8192, 0}, {-1, 0}, {0, 0}, {1, 1}, {2, 2}, {64, 64},
		{api.MaxSectors - 1, api.MaxSectors - 1}, {api.MaxSectors, api.MaxSectors}, {api.MaxSectors + 1, api.MaxSectors},
		{1 << 30, api.MaxSectors}, {1 << 32, api.MaxSectors}, {1<<32 + 1, api.MaxSectors}, {greatest, api.MaxSectors},
	} {
		d := disk.New(c.asked)
		if d.Sectors() != c.had {
			t.Errorf("New(%d) has %d sectors, not %d", c.asked, d.Sectors(), c.had)
		}
		stands(t, d, slices.Repeat([][]byte{noughts()}, c.had)...)
		waits(t, d, 0)
	}
}

// P4.1: a disk without sectors, made so or not made at all, has nothing to read or write, but all else is as of others.
func TestNoSectors(t *testing.T) {
	for _, d := range []*disk.Disk{disk.New(0), disk.New(-1), {}} {
		for _, i := range []int{least, -1, 0, 1, greatest} {
			if b, e := d.Read(i); e != api.ErrArg || len(b) != 0 {
				t.Errorf("Read(%d) is %v, %d", i, b, e)
			}
			if e := d.Write(i, full(1)); e != api.ErrArg {
				t.Errorf("Write(%d) is %d", i, e)
			}
		}
		flush(t, d)
		waits(t, d, 0)
		d.Fuse(0)
		lost(t, d)
		d.Crash(true)
		flush(t, d)
		waits(t, d, 0)
	}
}

// P4.1: the first and the last sector are there, those beside them aren't, whatever the disk's size.
func TestPlaces(t *testing.T) {
	for _, n := range []int{1, 2, 3, 255, 256, 257, api.MaxSectors - 1, api.MaxSectors} {
		d := disk.New(n)
		want := slices.Repeat([][]byte{noughts()}, n)
		for _, i := range []int{0, n / 2, n - 1} {
			want[i] = full(i + 1)
			write(t, d, i, want[i])
		}
		for _, i := range []int{least, -n, -1, n, n + 1, n + 1<<32, 1 << 32, greatest} {
			if b, e := d.Read(i); e != api.ErrArg || len(b) != 0 {
				t.Errorf("Read(%d) of %d sectors is %v, %d", i, n, b, e)
			}
			if e := d.Write(i, full(9)); e != api.ErrArg {
				t.Errorf("Write(%d) of %d sectors is %d", i, n, e)
			}
		}
		waits(t, d, 3)
		stands(t, d, want...)
	}
}

// P4.1: a write has just Sector bytes; any other is ErrArg, changes nothing, and doesn't wait.
func TestSizes(t *testing.T) {
	d := disk.New(2)
	write(t, d, 0, full(1))
	for _, n := range []int{0, 1, api.Sector - 1, api.Sector + 1, 2 * api.Sector, api.Sector + 256, api.MaxBytes} {
		if e := d.Write(0, bytes.Repeat([]byte{7}, n)); e != api.ErrArg {
			t.Errorf("Write of %d bytes is %d", n, e)
		}
	}
	if e := d.Write(0, nil); e != api.ErrArg {
		t.Errorf("Write of nil is %d", e)
	}
	if e := d.Write(0, make([]byte, api.Sector-1, api.Sector)); e != api.ErrArg {
		t.Errorf("Write of fewer bytes with spare room is %d", e)
	}
	waits(t, d, 1)
	stands(t, d, full(1), noughts())
	write(t, d, 1, append(make([]byte, 0, 2*api.Sector), full(2)...))
	stands(t, d, full(1), full(2))
}

// P4.1: a write is seen at once, waits, and waits no more behind a flush, after which it is still seen.
func TestWriteAndFlush(t *testing.T) {
	d := disk.New(3)
	flush(t, d)
	write(t, d, 1, full(1))
	stands(t, d, noughts(), full(1), noughts())
	write(t, d, 1, full(1))
	write(t, d, 2, noughts())
	waits(t, d, 3)
	write(t, d, 1, full(2))
	waits(t, d, 4)
	stands(t, d, noughts(), full(2), noughts())
	flush(t, d)
	waits(t, d, 0)
	stands(t, d, noughts(), full(2), noughts())
	flush(t, d)
	write(t, d, 0, full(3))
	waits(t, d, 1)
	stands(t, d, full(3), full(2), noughts())
}

// P4.1: a fuse of n: n writes are done, and behind the last one the power is gone.
func TestFuse(t *testing.T) {
	for _, n := range []int{1, 2, 3, 79, 300} {
		d := disk.New(2)
		d.Fuse(n)
		seen := noughts()
		for k := range n {
			// Neither a read nor a flush burns it.
			flush(t, d)
			stands(t, d, seen, noughts())
			seen = full(k)
			write(t, d, 0, seen)
		}
		lost(t, d)
		waits(t, d, 1)
		d.Crash(true)
		stands(t, d, seen, noughts())
	}
}

// P4.1: a fuse of 0 takes the power at once; what waits goes on waiting, and how many sectors there are is still told.
func TestFuseAtOnce(t *testing.T) {
	d := disk.New(2)
	write(t, d, 0, full(1))
	write(t, d, 1, full(2))
	d.Fuse(0)
	lost(t, d)
	waits(t, d, 2)
	if d.Sectors() != 2 {
		t.Errorf("%d sectors", d.Sectors())
	}
	d.Crash(false, true)
	stands(t, d, noughts(), full(2))
}

// P4.1: below 0 there is no fuse, and the one that was there is none any more.
func TestFuseNone(t *testing.T) {
	for _, n := range []int{-1, -2, least} {
		d := disk.New(1)
		d.Fuse(n)
		for k := range 100 {
			write(t, d, 0, full(k))
		}
		d.Fuse(2)
		write(t, d, 0, full(1))
		d.Fuse(n)
		for k := range 100 {
			write(t, d, 0, full(k))
		}
		waits(t, d, 201)
		flush(t, d)
		stands(t, d, full(99))
	}
}

// P4.1: a great fuse is one, and doesn't go off early.
func TestFuseGreat(t *testing.T) {
	for _, n := range []int{1 << 32, 1<<32 + 1, greatest} {
		d := disk.New(1)
		d.Fuse(n)
		for k := range 10 {
			write(t, d, 0, full(k))
		}
		stands(t, d, full(9))
	}
}

// P4.1: a fuse stands in the place of the one ahead, whether it is longer or shorter.
func TestFuseAnew(t *testing.T) {
	for _, c := range []struct{ first, done, second int }{{1, 0, 3}, {5, 2, 1}, {2, 1, 2}, {3, 2, 3}, {4, 1, 0}} {
		d := disk.New(1)
		d.Fuse(c.first)
		for k := range c.done {
			write(t, d, 0, full(k))
		}
		d.Fuse(c.second)
		for k := range c.second {
			write(t, d, 0, full(k))
		}
		lost(t, d)
		waits(t, d, c.done+c.second)
	}
}

// P4.1: a write that is none burns no fuse, nor does it wait.
func TestFuseUnburnt(t *testing.T) {
	d := disk.New(2)
	d.Fuse(2)
	wrong := func() {
		t.Helper()
		for range 3 {
			for _, i := range []int{-1, 2, least, greatest} {
				if e := d.Write(i, full(1)); e != api.ErrArg {
					t.Errorf("Write(%d) is %d", i, e)
				}
			}
			for _, b := range [][]byte{nil, full(1)[1:], append(full(1), 1)} {
				if e := d.Write(0, b); e != api.ErrArg {
					t.Errorf("Write of %d bytes is %d", len(b), e)
				}
			}
		}
	}
	wrong()
	write(t, d, 0, full(1))
	wrong()
	waits(t, d, 1)
	stands(t, d, full(1), noughts())
	write(t, d, 1, full(2))
	lost(t, d)
	waits(t, d, 2)
}

// P4.1: a fuse is nothing while the power is gone: it neither comes on by it, nor is one left behind the crash.
func TestFuseWithoutPower(t *testing.T) {
	for _, n := range []int{least, -1, 0, 1, 2, greatest} {
		d := disk.New(1)
		d.Fuse(1)
		write(t, d, 0, full(1))
		d.Fuse(n)
		lost(t, d)
		waits(t, d, 1)
		d.Crash()
		for k := range 5 {
			write(t, d, 0, full(k))
			stands(t, d, full(k))
		}
	}
}

// P4.2: a crash leaves no fuse, whether it had burnt down, or had some writes left.
func TestCrashTakesFuse(t *testing.T) {
	for _, n := range []int{0, 1, 2, 3} {
		d := disk.New(1)
		d.Fuse(n)
		for k := range min(n, 2) {
			write(t, d, 0, full(k))
		}
		d.Crash()
		stands(t, d, noughts())
		for k := range 10 {
			write(t, d, 0, full(k))
		}
		flush(t, d)
		stands(t, d, full(9))
		d.Fuse(1)
		write(t, d, 0, full(1))
		lost(t, d)
	}
}

// P4.2: what the chapter tells as an example.
func TestCrashExample(t *testing.T) {
	for _, pick := range [][]bool{nil, {}, {false}, {false, true}} {
		d := disk.New(1)
		write(t, d, 0, full(1))
		flush(t, d)
		write(t, d, 0, full(2))
		d.Crash(pick...)
		stands(t, d, full(1))
		waits(t, d, 0)
	}
}

// P4.2: of a pick that is shorter than what waits the rest isn't kept; of a longer one the rest is nothing.
func TestCrashPickSizes(t *testing.T) {
	for n := range 12 {
		d := disk.New(6)
		for k := range 6 {
			write(t, d, k, full(k))
		}
		d.Crash(slices.Repeat([]bool{true}, n)...)
		want := slices.Repeat([][]byte{noughts()}, 6)
		for k := range min(n, 6) {
			want[k] = full(k)
		}
		stands(t, d, want...)
		waits(t, d, 0)
		// A pick's rest isn't left for what waits later.
		write(t, d, 0, full(9))
		d.Crash()
		stands(t, d, want...)
	}
}

// P4.2: the pick goes by the order of the writes, not by that of the sectors.
func TestCrashOrder(t *testing.T) {
	d := disk.New(3)
	write(t, d, 2, full(1))
	write(t, d, 0, full(2))
	write(t, d, 1, full(3))
	d.Crash(true, false, true)
	stands(t, d, noughts(), full(3), full(1))
}

// P4.2: of several writes of one sector that wait, with every pick: the last one that is kept stands, and behind none what was flushed.
func TestCrashOneSector(t *testing.T) {
	const n = 5
	for bits := range 1 << n {
		d := disk.New(2)
		write(t, d, 0, full(100))
		flush(t, d)
		want := full(100)
		pick := make([]bool, n)
		for k := range n {
			write(t, d, 0, full(k))
			if pick[k] = bits>>k&1 == 1; pick[k] {
				want = full(k)
			}
		}
		d.Crash(pick...)
		stands(t, d, want, noughts())
		waits(t, d, 0)
	}
}

// P4.2: a flush between: only what came behind it is picked from, and counted from the first of these on.
func TestCrashBehindFlush(t *testing.T) {
	d := disk.New(3)
	write(t, d, 0, full(1))
	write(t, d, 1, full(2))
	flush(t, d)
	write(t, d, 1, full(3))
	write(t, d, 2, full(4))
	d.Crash(false, true)
	stands(t, d, full(1), full(2), full(4))
}

// P4.2: no write waits behind a crash: what was kept isn't lost by the next, and what wasn't never comes again.
func TestCrashTwice(t *testing.T) {
	d := disk.New(2)
	write(t, d, 0, full(1))
	write(t, d, 1, full(2))
	d.Crash(true, false)
	for _, pick := range [][]bool{nil, {false, false}, {true, true}, {false, true, true}} {
		d.Crash(pick...)
		stands(t, d, full(1), noughts())
		waits(t, d, 0)
	}
	flush(t, d)
	stands(t, d, full(1), noughts())
}

// P4.2: a crash with nothing that waits, with any pick, changes no sector.
func TestCrashNothing(t *testing.T) {
	for _, pick := range [][]bool{nil, {}, {true}, {false}, slices.Repeat([]bool{true}, 1000)} {
		d := disk.New(1)
		d.Crash(pick...)
		stands(t, d, noughts())
		write(t, d, 0, full(1))
		flush(t, d)
		d.Crash(pick...)
		stands(t, d, full(1))
	}
}

// P4.2: writes that were ErrLost or ErrArg don't wait, and take no place in the pick.
func TestCrashSkipsWrong(t *testing.T) {
	d := disk.New(2)
	d.Write(2, full(8))
	write(t, d, 0, full(1))
	d.Write(0, full(8)[1:])
	d.Fuse(1)
	write(t, d, 1, full(2))
	d.Write(0, full(9))
	d.Flush()
	waits(t, d, 2)
	d.Crash(false, true, true)
	stands(t, d, noughts(), full(2))
}

// P4.3: what was flushed is there behind every crash, wherever the power went on a whole disk that is written over.
func TestFlushedStays(t *testing.T) {
	const n = 6
	for fuse := range n + 1 {
		for bits := range 1 << n {
			d := disk.New(n)
			want := make([][]byte, n)
			for k := range n {
				want[k] = full(k)
				write(t, d, k, want[k])
			}
			flush(t, d)
			d.Fuse(fuse)
			pick := make([]bool, n)
			for k := range n {
				pick[k] = bits>>k&1 == 1
				if d.Write(k, full(50+k)) == api.OK && pick[k] {
					want[k] = full(50 + k)
				}
			}
			d.Flush()
			d.Crash(pick...)
			stands(t, d, want...)
		}
	}
}

// P4.3: all of the greatest disk stays, when it was flushed, and none of it, when it wasn't.
func TestGreatestDisk(t *testing.T) {
	d := disk.New(api.MaxSectors)
	want := make([][]byte, api.MaxSectors)
	for i := range want {
		want[i] = full(i*3 + i>>8)
		write(t, d, i, want[i])
	}
	waits(t, d, api.MaxSectors)
	flush(t, d)
	for i := range want {
		write(t, d, i, full(7))
	}
	d.Crash()
	stands(t, d, want...)
}

// R5: what is handed in is left as it is, its spare room too, and isn't kept.
func TestArguments(t *testing.T) {
	d := disk.New(1)
	room := append(full(1), full(2)...)
	write(t, d, 0, room[:api.Sector])
	d.Write(0, room[:api.Sector-1])
	if !bytes.Equal(room, append(full(1), full(2)...)) {
		t.Error("a write has changed its bytes")
	}
	clear(room)
	stands(t, d, full(1))
	pick := []bool{true, false, true}
	d.Crash(pick[:1]...)
	if !slices.Equal(pick, []bool{true, false, true}) {
		t.Error("a crash has changed its pick")
	}
	stands(t, d, full(1))
}

// R5: what is answered is new memory.
func TestAnswers(t *testing.T) {
	d := disk.New(2)
	write(t, d, 0, full(1))
	write(t, d, 1, full(2))
	a, _ := d.Read(0)
	b, _ := d.Read(0)
	clear(a)
	_ = append(a, full(9)...)
	if !bytes.Equal(b, full(1)) {
		t.Error("two answers share memory")
	}
	stands(t, d, full(1), full(2))
	write(t, d, 0, full(3))
	if !bytes.Equal(b, full(1)) {
		t.Error("an answer is changed by a write")
	}
	d.Crash(true, false)
	stands(t, d, full(1), noughts())
}

// R7: two disks do not hang on one another.
func TestTwoDisks(t *testing.T) {
	a, b := disk.New(1), disk.New(1)
	write(t, a, 0, full(1))
	a.Fuse(0)
	stands(t, b, noughts())
	waits(t, b, 0)
	b.Crash(true)
	lost(t, a)
	waits(t, a, 1)
}
