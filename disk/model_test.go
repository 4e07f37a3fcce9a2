package disk_test

import (
	"bytes"
	"math/rand"
	"testing"

	"gatepost/api"
	"gatepost/disk"
)

// entry is a write as the model keeps it.
type entry struct {
	place int
	bytes []byte
}

// model is the chapter's words with nothing made ready ahead: all writes that ever were and weren't forgotten, how many of them were flushed, and what is left of the fuse (below 0: none).
type model struct {
	sectors int
	writes  []entry
	flushed int
	fuse    int
}

func (m *model) read(i int) ([]byte, api.Errno) {
	if m.fuse == 0 {
		return nil, api.ErrLost
	}
	if i < 0 || i >= m.sectors {
		return nil, api.ErrArg
	}
	b := noughts()
	for _, w := range m.writes {
		if w.place == i {
			b = w.bytes
		}
	}
	return b, api.OK
}

func (m *model) write(i int, b []byte) api.Errno {
	if m.fuse == 0 {
		return api.ErrLost
	}
	if i < 0 || i >= m.sectors || len(b) != api.Sector {
		return api.ErrArg
	}
	m.writes = append(m.writes, entry{i, bytes.Clone(b)})
	if m.fuse > 0 {
		m.fuse--
	}
	return api.OK
}

func (m *model) flush() api.Errno {
	if m.fuse == 0 {
		return api.ErrLost
	}
	m.flushed = len(m.writes)
	return api.OK
}

func (m *model) setFuse(n int) {
	if m.fuse != 0 {
		m.fuse = max(n, -1)
	}
}

func (m *model) crash(pick []bool) {
	kept := m.writes[:m.flushed:m.flushed]
	for i, w := range m.writes[m.flushed:] {
		if i < len(pick) && pick[i] {
			kept = append(kept, w)
		}
	}
	m.writes = kept
	m.flushed = len(kept)
	m.fuse = -1
}

// anyPick is a pick that may be shorter or longer than what waits.
func anyPick(r *rand.Rand, waits int) []bool {
	pick := make([]bool, r.Intn(waits+3))
	for i := range pick {
		pick[i] = r.Intn(2) == 1
	}
	return pick
}

// anyBytes is mostly a sector's bytes, and at times some fewer or more.
func anyBytes(r *rand.Rand) []byte {
	n := api.Sector
	if r.Intn(8) == 0 {
		n += r.Intn(3) - 1
	}
	b := make([]byte, n)
	r.Read(b)
	return b
}

// step does one thing to both, and tells whether they answered the same.
func step(r *rand.Rand, d *disk.Disk, m *model) bool {
	switch r.Intn(12) {
	case 0:
		return d.Flush() == m.flush()
	case 1:
		n := r.Intn(8) - 1
		d.Fuse(n)
		m.setFuse(n)
	case 2:
		pick := anyPick(r, d.Waits())
		d.Crash(pick...)
		m.crash(pick)
	default:
		i, b := r.Intn(m.sectors+2)-1, anyBytes(r)
		return d.Write(i, b) == m.write(i, b)
	}
	return true
}

// alike is whether both show the same from outside, the places beside the sectors too.
func alike(d *disk.Disk, m *model) bool {
	if d.Sectors() != m.sectors || d.Waits() != len(m.writes)-m.flushed {
		return false
	}
	for i := -1; i <= m.sectors; i++ {
		b, e := d.Read(i)
		want, f := m.read(i)
		if e != f || !bytes.Equal(b, want) {
			return false
		}
	}
	return true
}

// P4.1 to P4.3: whatever is called, in whatever order, the disk is as the model.
func TestModel(t *testing.T) {
	r := rand.New(rand.NewSource(4))
	for run := range 600 {
		n := r.Intn(6)
		d, m := disk.New(n), &model{sectors: n, fuse: -1}
		for k := range 80 {
			if !step(r, d, m) || !alike(d, m) {
				t.Fatalf("run %d goes wrong at the call %d", run, k)
			}
		}
	}
}
