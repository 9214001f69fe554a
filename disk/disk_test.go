package disk

import (
	"bytes"
	"errors"
	"math"
	"slices"
	"testing"

	"stave/api"
	"stave/fault"
)

// block tells the bytes of a sector; those of two salts from 0 to 255 differ at each place.
func block(salt int) []byte {
	b := make([]byte, api.Sector)
	for i := range b {
		b[i] = byte(salt + i*i + 3*i)
	}
	return b
}

// zeros tells what a new sector contains.
func zeros() []byte { return make([]byte, api.Sector) }

// rotten tells what rot makes of b: the bytes from position at on, turned by x, least significant byte first.
func rotten(b []byte, at int, x uint32) []byte {
	b = slices.Clone(b)
	for i, turn := range []uint32{x % 256, x / 256 % 256, x / 65536 % 256, x / 16777216} {
		b[at+i] ^= byte(turn)
	}
	return b
}

// made wants a disk of so many sectors.
func made(t *testing.T, sectors int) *Disk {
	t.Helper()
	d, err := New(sectors)
	if err != nil || d == nil {
		t.Fatalf("New(%d) is %v, %#v", sectors, d, err)
	}
	return d
}

// written lets block(salt) wait for sector i.
func written(t *testing.T, d *Disk, i, salt int) {
	t.Helper()
	if err := d.Write(i, block(salt)); err != nil {
		t.Fatalf("Write to %d: %#v", i, err)
	}
}

func flushed(t *testing.T, d *Disk) {
	t.Helper()
	if err := d.Flush(); err != nil {
		t.Fatalf("Flush: %#v", err)
	}
}

// reads wants Read of sector i to tell b.
func reads(t *testing.T, name string, d *Disk, i int, b []byte) {
	t.Helper()
	got, err := d.Read(i)
	if err != nil || !bytes.Equal(got, b) {
		t.Errorf("%s: sector %d has % x, %#v, want % x", name, i, got, err, b)
	}
}

// waiting wants just these sectors to have something that waits.
func waiting(t *testing.T, name string, d *Disk, want ...int) {
	t.Helper()
	if got := d.Waits(); !slices.Equal(got, want) {
		t.Errorf("%s: %v wait, want %v", name, got, want)
	}
}

// rots wants Rot to answer so.
func rots(t *testing.T, name string, d *Disk, i, at int, x uint32, want bool) {
	t.Helper()
	if got := d.Rot(i, at, x); got != want {
		t.Errorf("%s: Rot(%d, %d, %#x) is %v", name, i, at, x, got)
	}
}

// refused wants exactly one layer around the bare kind, with that operation and that position.
func refused(t *testing.T, name string, err error, op string, at int, kind api.Errno) {
	t.Helper()
	var f api.Fault
	if !errors.As(err, &f) || f != (api.Fault{Op: op, At: at, Err: kind}) {
		t.Errorf("%s: refused with %#v, want %s, At %d, %d", name, err, op, at, kind)
	}
	if !errors.Is(err, kind) || fault.Kind(err) != kind {
		t.Errorf("%s: refused with %#v, which is no %d", name, err, kind)
	}
}

// noSectors are numbers of which a disk with so many sectors has none.
func noSectors(sectors int) []int {
	return []int{-1, sectors, sectors + 1, -2, 256, -256, 1 << 32, 1<<32 + 1, -1 << 32, math.MaxInt, math.MinInt, math.MinInt + 1}
}

// badBlocks are blocks of the wrong size, some of which have the memory of a right one.
func badBlocks() [][]byte {
	return [][]byte{nil, {}, {1}, block(1)[:api.Sector-1], block(2)[1:], make([]byte, api.Sector-1), make([]byte, api.Sector+1),
		append(block(3), 9), make([]byte, 2*api.Sector), make([]byte, api.Sector, 2*api.Sector)[:0]}
}

// bitOf tells whether the bit of bits is 1 that is for the one with that index among those that wait.
func bitOf(bits uint64, index int) bool {
	for range index % 64 {
		bits /= 2
	}
	return bits%2 == 1
}

// model is a disk as the chapter says it, in lists: no map, and nothing shared.
type model struct {
	dead            bool
	stored, waiting [][]byte // of waiting, nil: nothing waits
	rotted          []bool
}

func modelOf(sectors int) *model {
	m := &model{}
	m.renew(sectors)
	return m
}

func (m *model) renew(sectors int) {
	m.stored, m.waiting, m.rotted = nil, make([][]byte, sectors), make([]bool, sectors)
	for range sectors {
		m.stored = append(m.stored, zeros())
	}
}

func (m *model) write(i int, b []byte) { m.waiting[i] = slices.Clone(b) }

// settle stores what waits where persists tells so of its index among those that wait, and loses the rest.
func (m *model) settle(persists func(index int) bool) {
	index := 0
	for i, b := range m.waiting {
		if b == nil {
			continue
		}
		if persists(index) {
			m.stored[i], m.rotted[i] = b, false
		}
		m.waiting[i] = nil
		index++
	}
}

func (m *model) flush() { m.settle(func(int) bool { return true }) }

func (m *model) crash(bits uint64) {
	m.settle(func(index int) bool { return bitOf(bits, index) })
}

func (m *model) rot(i, at int, x uint32) bool {
	if m.dead || m.rotted[i] || x == 0 {
		return false
	}
	m.stored[i], m.rotted[i] = rotten(m.stored[i], at, x), true
	return true
}

func (m *model) die(dead bool) {
	m.renew(len(m.stored))
	m.dead = dead
}

// like wants everything that a disk tells to be as the model has it.
func (m *model) like(t *testing.T, name string, d *Disk) bool {
	t.Helper()
	var waits []int
	good := d.Sectors() == len(m.stored) && d.Dead() == m.dead
	for i, b := range m.waiting {
		if b != nil {
			waits = append(waits, i)
		} else {
			b = m.stored[i]
		}
		got, err := d.Read(i)
		if m.dead {
			b = nil
		}
		good = good && bytes.Equal(got, b) && (err != nil) == m.dead
	}
	good = good && slices.Equal(d.Waits(), waits)
	if !good {
		t.Errorf("%s: not as the chapter has it", name)
	}
	return good
}

// P6.1
func TestNew(t *testing.T) {
	for sectors := 1; sectors <= api.MaxSectors; sectors++ {
		d := made(t, sectors)
		if d.Sectors() != sectors || d.Dead() {
			t.Errorf("New(%d) has %d sectors, dead: %v", sectors, d.Sectors(), d.Dead())
		}
		waiting(t, "a new disk", d)
		for i := range sectors {
			reads(t, "a new disk", d, i, zeros())
		}
		for _, i := range noSectors(sectors) {
			if b, err := d.Read(i); b != nil || err == nil {
				t.Errorf("New(%d): sector %d has %v", sectors, i, b)
			}
		}
	}
}

// P6.1: one sector too few, one too many, and numbers far beyond
func TestNewRefused(t *testing.T) {
	for _, sectors := range []int{0, api.MaxSectors + 1, -1, -api.MaxSectors, 2 * api.MaxSectors, 256, 257, 1<<32 + 1, math.MaxInt, math.MinInt, math.MinInt + 1} {
		d, err := New(sectors)
		if d != nil {
			t.Errorf("New(%d) made a disk", sectors)
		}
		refused(t, "New", err, "disk.New", sectors, api.ErrArg)
	}
}

// P6.1, R2: disks share nothing, whatever happens to one.
func TestDisksAreApart(t *testing.T) {
	first, second := made(t, 3), made(t, 3)
	written(t, first, 0, 1)
	written(t, first, 1, 2)
	waiting(t, "the other disk", second)
	flushed(t, first)
	written(t, first, 2, 3)
	rots(t, "a disk", first, 0, 0, 1, true)
	modelOf(3).like(t, "the other disk", second)
	first.Die()
	modelOf(3).like(t, "the other disk", second)
	written(t, second, 0, 4)
	flushed(t, second)
	rots(t, "the other disk", second, 1, 0, 1, true)
	first.Replace()
	modelOf(3).like(t, "a replaced disk", first)
	reads(t, "the other disk", second, 0, block(4))
	modelOf(3).like(t, "a third disk", made(t, 3))
}

// P6.2: what waits is read in the sector that it waits for, and there alone; behind Write nothing is stored yet.
func TestWriteWaits(t *testing.T) {
	for _, sectors := range []int{1, 2, 5, api.MaxSectors} {
		for i := range sectors {
			d, m := made(t, sectors), modelOf(sectors)
			written(t, d, i, 7)
			m.write(i, block(7))
			m.like(t, "one that waits", d)
			waiting(t, "one that waits", d, i)
			d.Crash(0)
			modelOf(sectors).like(t, "one that was lost", d)
		}
	}
}

// P6.2: what waits is replaced by the next Write to its sector, is still one, and takes the first one's place in Waits.
func TestWriteToASectorThatWaits(t *testing.T) {
	d := made(t, 4)
	written(t, d, 1, 10)
	written(t, d, 3, 11)
	written(t, d, 1, 12)
	reads(t, "the second Write", d, 1, block(12))
	reads(t, "another sector", d, 3, block(11))
	waiting(t, "two that wait", d, 1, 3)
	d.Crash(2)
	reads(t, "lost", d, 1, zeros())
	reads(t, "stored", d, 3, block(11))
	for salt := range 5 {
		written(t, d, 1, salt)
		reads(t, "the newest", d, 1, block(salt))
	}
	flushed(t, d)
	reads(t, "the last one", d, 1, block(4))
	// What was replaced isn't there to come back.
	written(t, d, 1, 20)
	written(t, d, 1, 21)
	d.Crash(0)
	reads(t, "both lost", d, 1, block(4))
}

// P6.2: bytes 0 wait like all others, and so does what is stored already.
func TestWriteOfTheSame(t *testing.T) {
	d := made(t, 2)
	if err := d.Write(0, zeros()); err != nil {
		t.Errorf("Write of zeros: %#v", err)
	}
	waiting(t, "zeros", d, 0)
	d.Crash(1)
	written(t, d, 0, 5)
	flushed(t, d)
	written(t, d, 0, 5)
	waiting(t, "the same", d, 0)
	if err := d.Write(0, zeros()); err != nil {
		t.Errorf("Write of zeros: %#v", err)
	}
	reads(t, "zeros that wait", d, 0, zeros())
	flushed(t, d)
	reads(t, "zeros that are stored", d, 0, zeros())
}

// P6.2: refused for the sector, for the size of the block, and for both; nothing of the disk changes.
func TestWriteRefused(t *testing.T) {
	for _, sectors := range []int{1, 4, api.MaxSectors} {
		d, m := made(t, sectors), modelOf(sectors)
		written(t, d, 0, 1)
		flushed(t, d)
		written(t, d, 0, 2)
		m.write(0, block(1))
		m.flush()
		m.write(0, block(2))
		for _, i := range noSectors(sectors) {
			refused(t, "no sector", d.Write(i, block(3)), "disk.Write", i, api.ErrArg)
			for _, b := range badBlocks() {
				refused(t, "no sector, bad block", d.Write(i, b), "disk.Write", i, api.ErrArg)
			}
		}
		for i := range sectors {
			for _, b := range badBlocks() {
				refused(t, "bad block", d.Write(i, b), "disk.Write", i, api.ErrArg)
			}
		}
		m.like(t, "behind refusals", d)
		d.Crash(0)
		reads(t, "behind refusals and a crash", d, 0, block(1))
	}
}

// P6.2
func TestReadRefused(t *testing.T) {
	for _, sectors := range []int{1, 4, api.MaxSectors} {
		d := made(t, sectors)
		written(t, d, sectors-1, 1)
		for _, i := range noSectors(sectors) {
			b, err := d.Read(i)
			if b != nil {
				t.Errorf("%d sectors: Read(%d) is %v", sectors, i, b)
			}
			refused(t, "no sector", err, "disk.Read", i, api.ErrArg)
		}
		reads(t, "the last sector", d, sectors-1, block(1))
	}
}

// P6.2, R2, R5: what Write is given stays, with the memory around it, and is not kept.
func TestWriteLeavesItsArgument(t *testing.T) {
	d := made(t, 3)
	for i := range 3 {
		memory := bytes.Repeat([]byte{99}, 2*api.Sector)
		b := memory[5 : 5+api.Sector]
		copy(b, block(i))
		was := slices.Clone(memory)
		if err := d.Write(i, b); err != nil {
			t.Fatalf("Write: %#v", err)
		}
		if !bytes.Equal(memory, was) {
			t.Errorf("the memory became % x", memory)
		}
		clear(memory)
		reads(t, "what waits", d, i, block(i))
		flushed(t, d)
		if !bytes.Equal(memory, make([]byte, len(memory))) {
			t.Errorf("Flush: the memory became % x", memory)
		}
		memory[5] = 7
		reads(t, "what is stored", d, i, block(i))
	}
	b := block(30)
	d.Write(0, b)
	b[0]++
	d.Write(1, b)
	b[0]++
	d.Crash(3)
	b[0]++
	reads(t, "the first of two", d, 0, block(30))
	if got, _ := d.Read(1); got[0] != block(30)[0]+1 {
		t.Errorf("the second of two begins with %d", got[0])
	}
	if rots(t, "what was given", d, 0, 0, 1, true); b[0] != block(30)[0]+3 {
		t.Errorf("Rot changed what was given to %d", b[0])
	}
}

// overwrite changes a slice and all of its unused capacity.
func overwrite(b []byte) {
	b = b[:cap(b)]
	for i := range b {
		b[i] ^= 255
	}
}

// P6.2, R2: what Read tells is the caller's own: changed later, it changes nothing of the disk or of another answer,
// and nothing that happens to the disk changes it.
func TestReadTellsNewMemory(t *testing.T) {
	d := made(t, 3)
	written(t, d, 1, 1)
	flushed(t, d)
	written(t, d, 2, 2)
	for i, want := range [][]byte{zeros(), block(1), block(2)} {
		first, _ := d.Read(i)
		second, _ := d.Read(i)
		overwrite(first)
		if !bytes.Equal(second, want) {
			t.Errorf("sector %d: one answer changes with another", i)
		}
		reads(t, "behind a changed answer", d, i, want)
	}
	var answers [][]byte
	for i := range 3 {
		b, _ := d.Read(i)
		answers = append(answers, b)
	}
	for i := range 3 {
		rots(t, "behind Read", d, i, 0, math.MaxUint32, true)
		written(t, d, i, 40)
	}
	flushed(t, d)
	d.Die()
	for i, want := range [][]byte{zeros(), block(1), block(2)} {
		if !bytes.Equal(answers[i], want) {
			t.Errorf("sector %d: the answer changes with the disk: % x", i, answers[i])
		}
	}
	d.Replace()
	b, _ := d.Read(0)
	overwrite(b)
	d.Die()
	d.Replace()
	modelOf(3).like(t, "replaced", d)
}

// P6.3: ahead of Flush a crash may lose what waits, behind it none can.
func TestFlush(t *testing.T) {
	d, m := made(t, 5), modelOf(5)
	flushed(t, d)
	m.like(t, "a Flush of nothing", d)
	for round := range 4 {
		for i := round; i < 5; i++ {
			written(t, d, i, 10*round+i)
			m.write(i, block(10*round+i))
		}
		m.like(t, "ahead of Flush", d)
		flushed(t, d)
		m.flush()
		m.like(t, "behind Flush", d)
		waiting(t, "behind Flush", d)
		d.Crash(0)
		m.like(t, "behind Flush and a crash", d)
		flushed(t, d)
		m.like(t, "behind a second Flush", d)
	}
	d = made(t, api.MaxSectors)
	for i := range api.MaxSectors {
		written(t, d, i, i)
	}
	flushed(t, d)
	waiting(t, "behind Flush of all", d)
	for i := range api.MaxSectors {
		reads(t, "behind Flush of all", d, i, block(i))
	}
}

// orders tells every order of the numbers in list.
func orders(list []int, test func(list []int)) {
	var choose func(at int)
	choose = func(at int) {
		if at == len(list) {
			test(slices.Clone(list))
			return
		}
		for i := at; i < len(list); i++ {
			list[at], list[i] = list[i], list[at]
			choose(at + 1)
			list[at], list[i] = list[i], list[at]
		}
	}
	choose(0)
}

// P6.3: ascending, whatever the order of the writes
func TestWaitsAscending(t *testing.T) {
	want := []int{0, 2, 3, 7, 11, 12}
	orders(slices.Clone(want), func(list []int) {
		d := made(t, 13)
		for n, i := range list {
			written(t, d, i, i)
			sorted := slices.Sorted(slices.Values(list[:n+1]))
			waiting(t, "some", d, sorted...)
		}
		written(t, d, list[0], 50)
		waiting(t, "all, one twice", d, want...)
	})
	for _, step := range []int{1, 3, 31, 77, api.MaxSectors - 1} {
		d := made(t, api.MaxSectors)
		var all []int
		for i := range api.MaxSectors {
			all = append(all, i)
			written(t, d, i*step%api.MaxSectors, i)
		}
		waiting(t, "all sectors", d, all...)
	}
}

// P6.3, R2: what Waits tells is the caller's own.
func TestWaitsTellsNewMemory(t *testing.T) {
	d := made(t, 4)
	written(t, d, 2, 1)
	written(t, d, 0, 2)
	first := d.Waits()
	second := d.Waits()
	for i := range first[:cap(first)] {
		first[:cap(first)][i] = 3
	}
	if !slices.Equal(second, []int{0, 2}) {
		t.Errorf("one answer changes with another: %v", second)
	}
	waiting(t, "behind a changed answer", d, 0, 2)
	written(t, d, 1, 3)
	flushed(t, d)
	if !slices.Equal(second, []int{0, 2}) {
		t.Errorf("the answer changes with the disk: %v", second)
	}
}

// P6.4: each set of waiting sectors, each pattern of bits for them, and bits beyond them
func TestCrashOfEveryPattern(t *testing.T) {
	const sectors = 5
	for set := range 1 << sectors {
		for pattern := range uint64(1 << sectors) {
			for _, bits := range []uint64{pattern, pattern | 1<<63, pattern | ^uint64(1<<sectors-1)} {
				d, m := made(t, sectors), modelOf(sectors)
				for i := range sectors {
					written(t, d, i, i)
					m.write(i, block(i))
				}
				flushed(t, d)
				m.flush()
				for i := sectors - 1; i >= 0; i-- {
					if set>>i&1 == 1 {
						written(t, d, i, 100+i)
						m.write(i, block(100+i))
					}
				}
				d.Crash(bits)
				m.crash(bits)
				if !m.like(t, "crashed", d) {
					t.Fatalf("set %b, bits %b", set, bits)
				}
			}
		}
	}
}

// P6.4: the bits are for the sectors that wait, in their order, not for the sectors' numbers.
func TestCrashByHand(t *testing.T) {
	d := made(t, 10)
	for n, i := range []int{8, 1, 5, 4} {
		written(t, d, i, n)
	}
	d.Crash(0b1010)
	reads(t, "index 0", d, 1, zeros())
	reads(t, "index 1", d, 4, block(3))
	reads(t, "index 2", d, 5, zeros())
	reads(t, "index 3", d, 8, block(0))
	waiting(t, "behind a crash", d)
}

// P6.4: bit m mod 64, for all that wait, among them those of an order that isn't that of the sectors' numbers
func TestCrashOfMoreThan64(t *testing.T) {
	var patterns []uint64
	for bit := range 64 {
		patterns = append(patterns, 1<<bit, ^uint64(1<<bit))
	}
	patterns = append(patterns, 0, math.MaxUint64, 0xF0F0F0F00F0F0F0F, 0x123456789ABCDEF0, 0xAAAAAAAAAAAAAAAA)
	for _, first := range []int{0, 1, 17, 62, 63, 64, 65} {
		for _, bits := range patterns {
			d, m := made(t, api.MaxSectors), modelOf(api.MaxSectors)
			for i := first; i < api.MaxSectors; i++ {
				written(t, d, i, 1+i)
				m.write(i, block(1+i))
			}
			d.Crash(bits)
			m.crash(bits)
			if !m.like(t, "crashed", d) {
				t.Fatalf("from sector %d on, bits %b", first, bits)
			}
		}
	}
}

// P6.4: a crash with nothing that waits changes nothing, and none of its bits waits for the next one.
func TestCrashOfNothing(t *testing.T) {
	d, m := made(t, 3), modelOf(3)
	d.Crash(math.MaxUint64)
	m.like(t, "a new disk", d)
	written(t, d, 1, 1)
	flushed(t, d)
	m.write(1, block(1))
	m.flush()
	for _, bits := range []uint64{0, 1, 2, math.MaxUint64} {
		d.Crash(bits)
		m.like(t, "nothing waits", d)
	}
	written(t, d, 1, 2)
	d.Crash(0)
	d.Crash(math.MaxUint64)
	m.like(t, "what is lost stays lost", d)
	flushed(t, d)
	m.like(t, "what is lost stays lost, flushed", d)
}

// P6.5: at each place, each bit, and some of several bytes; the first byte is turned by the least significant one.
func TestRot(t *testing.T) {
	turns := []uint32{0x04030201, 0x01020304, math.MaxUint32, 0x80000001, 0x00ff0000, 0xdeadbeef}
	for bit := range 32 {
		turns = append(turns, 1<<bit)
	}
	for at := range api.Sector - 3 {
		for _, x := range turns {
			d := made(t, 3)
			for i := range 3 {
				written(t, d, i, i)
			}
			flushed(t, d)
			i := at % 3
			rots(t, "stored", d, i, at, x, true)
			for j := range 3 {
				want := block(j)
				if j == i {
					want = rotten(want, at, x)
				}
				reads(t, "one rotted", d, j, want)
			}
			waiting(t, "one rotted", d)
			rots(t, "again", d, i, at, x, false)
			reads(t, "again", d, i, rotten(block(i), at, x))
		}
	}
}

// P6.5: by hand, at the first place and at the last one
func TestRotByHand(t *testing.T) {
	d := made(t, 2)
	rots(t, "the first place", d, 0, 0, 0x04030201, true)
	rots(t, "the last place", d, 1, 124, 0x04030200, true)
	first, last := zeros(), zeros()
	first[0], first[1], first[2], first[3] = 1, 2, 3, 4
	last[125], last[126], last[127] = 2, 3, 4
	reads(t, "the first place", d, 0, first)
	reads(t, "the last place", d, 1, last)
}

// P6.5: a place beyond either end, no such sector, x of 0: nothing changes, and the sector hasn't rotted.
func TestRotRefused(t *testing.T) {
	for _, sectors := range []int{1, 4, api.MaxSectors} {
		d, m := made(t, sectors), modelOf(sectors)
		written(t, d, 0, 1)
		flushed(t, d)
		m.write(0, block(1))
		m.flush()
		for _, i := range noSectors(sectors) {
			for _, at := range []int{0, 60, api.Sector - 4, -1, api.Sector} {
				rots(t, "no sector", d, i, at, 1, false)
			}
		}
		for i := range sectors {
			for _, at := range []int{-1, api.Sector - 3, -2, -3, -4, -5, api.Sector - 2, api.Sector - 1, api.Sector, api.Sector + 1, 256, 1 << 32, -1 << 32, math.MaxInt, math.MaxInt - 3, math.MinInt} {
				for _, x := range []uint32{0, 1, math.MaxUint32} {
					rots(t, "no place", d, i, at, x, false)
				}
			}
			for at := range api.Sector - 3 {
				rots(t, "x of 0", d, i, at, 0, false)
			}
		}
		m.like(t, "behind refusals", d)
		for i := range sectors {
			rots(t, "not rotten yet", d, i, 0, 1, true)
			rots(t, "rotten, x of 0", d, i, 0, 0, false)
			rots(t, "rotten, another place", d, i, 9, 1, false)
		}
	}
}

// P6.5: what is stored rots below what waits, and is seen when that is lost.
func TestRotBelowWhatWaits(t *testing.T) {
	d := made(t, 2)
	written(t, d, 1, 1)
	flushed(t, d)
	written(t, d, 1, 2)
	rots(t, "below", d, 1, 3, 0x01020408, true)
	reads(t, "what waits", d, 1, block(2))
	waiting(t, "what waits", d, 1)
	rots(t, "below, again", d, 1, 3, 0x01020408, false)
	written(t, d, 1, 3)
	rots(t, "a Write stores nothing", d, 1, 50, 1, false)
	d.Crash(0)
	reads(t, "seen", d, 1, rotten(block(1), 3, 0x01020408))
	rots(t, "a crash that loses stores nothing", d, 1, 50, 1, false)
	written(t, d, 1, 4)
	flushed(t, d)
	reads(t, "stored over it", d, 1, block(4))
}

// P6.5: once since something was last stored in the sector: behind each of what stores there, and of what doesn't.
func TestRotOnce(t *testing.T) {
	write := func(d *Disk) { d.Write(0, block(9)) }
	writeOther := func(d *Disk) { d.Write(1, block(9)) }
	flush := func(d *Disk) { d.Flush() }
	crash := func(bits uint64) func(*Disk) { return func(d *Disk) { d.Crash(bits) } }
	read := func(d *Disk) { d.Read(0) }
	writeTheSame := func(d *Disk) {
		b, _ := d.Read(0)
		d.Write(0, b)
	}
	for _, c := range []struct {
		name string
		acts []func(*Disk)
		want bool
	}{
		{"nothing", nil, false},
		{"Read", []func(*Disk){read}, false},
		{"Write", []func(*Disk){write}, false},
		{"Flush of nothing", []func(*Disk){flush}, false},
		{"Flush of another sector", []func(*Disk){writeOther, flush}, false},
		{"Flush", []func(*Disk){write, flush}, true},
		{"Flush of two", []func(*Disk){writeOther, write, flush}, true},
		{"Flush, Flush", []func(*Disk){write, flush, flush}, true},
		{"Flush of what is stored", []func(*Disk){writeTheSame, flush}, true},
		{"Crash that stores what is stored", []func(*Disk){writeTheSame, crash(1)}, true},
		{"Crash that loses what is stored", []func(*Disk){writeTheSame, crash(0)}, false},
		{"Crash of nothing", []func(*Disk){crash(math.MaxUint64)}, false},
		{"Crash that loses", []func(*Disk){write, crash(0)}, false},
		{"Crash that loses, bits beyond", []func(*Disk){write, crash(math.MaxUint64 - 1)}, false},
		{"Crash that loses, Flush", []func(*Disk){write, crash(0), flush}, false},
		{"Crash that stores", []func(*Disk){write, crash(1)}, true},
		{"Crash that stores the other", []func(*Disk){write, writeOther, crash(2)}, false},
		{"Crash that stores this", []func(*Disk){write, writeOther, crash(1)}, true},
		{"Crash that stores another alone", []func(*Disk){writeOther, crash(1)}, false},
		{"Die", []func(*Disk){(*Disk).Die}, false},
		{"Die, Replace", []func(*Disk){(*Disk).Die, (*Disk).Replace}, true},
		{"Replace", []func(*Disk){(*Disk).Replace}, true},
		{"Write, Replace", []func(*Disk){write, (*Disk).Replace}, true},
		{"Die, Die, Replace, Replace", []func(*Disk){(*Disk).Die, (*Disk).Die, (*Disk).Replace, (*Disk).Replace}, true},
	} {
		d := made(t, 2)
		rots(t, c.name+": first", d, 0, 5, 7, true)
		for _, act := range c.acts {
			act(d)
		}
		rots(t, c.name, d, 0, 6, 8, c.want)
		rots(t, c.name+": at last", d, 0, 5, 7, false)
	}
}

// P6.5: one sector's rot isn't another's, and storing in one lets no other rot again.
func TestRotSectorBySector(t *testing.T) {
	d := made(t, api.MaxSectors)
	for i := range api.MaxSectors {
		rots(t, "first", d, i, i%125, 1, true)
	}
	for i := range api.MaxSectors {
		rots(t, "again", d, i, i%125, 1, false)
		reads(t, "rotten once", d, i, rotten(zeros(), i%125, 1))
	}
	written(t, d, 64, 1)
	flushed(t, d)
	for i := range api.MaxSectors {
		rots(t, "behind a Flush of sector 64", d, i, 0, 2, i == 64)
	}
}

// P6.6: Die loses what is stored and what waits, and so does Replace, whatever the disk was before.
func TestDieAndReplace(t *testing.T) {
	die, replace := (*Disk).Die, (*Disk).Replace
	for _, sectors := range []int{1, 3, api.MaxSectors} {
		for _, c := range []struct {
			acts []func(*Disk)
			dead bool
		}{
			{[]func(*Disk){die}, true}, {[]func(*Disk){die, die}, true}, {[]func(*Disk){replace, die}, true},
			{[]func(*Disk){die, replace, die}, true}, {[]func(*Disk){replace}, false},
			{[]func(*Disk){replace, replace}, false}, {[]func(*Disk){die, replace}, false},
		} {
			d, m := made(t, sectors), modelOf(sectors)
			for i := range sectors {
				written(t, d, i, i)
			}
			flushed(t, d)
			for i := 0; i < sectors; i += 2 {
				written(t, d, i, 100+i)
			}
			rots(t, "stored", d, 0, 0, 1, true)
			for _, act := range c.acts {
				act(d)
			}
			m.die(c.dead)
			m.like(t, "died or replaced", d)
			d.Crash(math.MaxUint64)
			m.like(t, "nothing is left to be stored", d)
			d.Replace()
			m.die(false)
			flushed(t, d)
			m.like(t, "replaced", d)
		}
	}
}

// P6.6: each function, on a disk that is dead; nothing done to it is there once it is replaced.
func TestDeadDisk(t *testing.T) {
	for _, sectors := range []int{1, 3, api.MaxSectors} {
		d := made(t, sectors)
		written(t, d, 0, 1)
		flushed(t, d)
		written(t, d, 0, 2)
		d.Die()
		for _, i := range append(noSectors(sectors), 0, sectors/2, sectors-1) {
			refused(t, "dead", d.Write(i, block(3)), "disk.Write", i, api.ErrDown)
			for _, b := range badBlocks() {
				refused(t, "dead, bad block", d.Write(i, b), "disk.Write", i, api.ErrDown)
			}
			b, err := d.Read(i)
			if b != nil {
				t.Errorf("dead: Read(%d) is %v", i, b)
			}
			refused(t, "dead", err, "disk.Read", i, api.ErrDown)
			for _, at := range []int{0, api.Sector - 4, -1, api.Sector} {
				rots(t, "dead", d, i, at, 1, false)
				rots(t, "dead, x of 0", d, i, at, 0, false)
			}
		}
		refused(t, "dead", d.Flush(), "disk.Flush", 0, api.ErrDown)
		waiting(t, "dead", d)
		d.Crash(0)
		d.Crash(math.MaxUint64)
		if !d.Dead() || d.Sectors() != sectors {
			t.Errorf("dead: %v, %d sectors, want %d", d.Dead(), d.Sectors(), sectors)
		}
		d.Replace()
		modelOf(sectors).like(t, "replaced", d)
		rots(t, "replaced", d, 0, 0, 1, true)
	}
}

// P6.6: a replaced disk is as good as a new one.
func TestReplacedDisk(t *testing.T) {
	d, m := made(t, 4), modelOf(4)
	d.Die()
	d.Replace()
	for i := range 4 {
		written(t, d, 3-i, i)
		m.write(3-i, block(i))
	}
	m.like(t, "written", d)
	d.Crash(6)
	m.crash(6)
	m.like(t, "crashed", d)
	written(t, d, 0, 8)
	m.write(0, block(8))
	flushed(t, d)
	m.flush()
	m.like(t, "flushed", d)
	refused(t, "replaced", d.Write(4, block(1)), "disk.Write", 4, api.ErrArg)
}

// P6.7: what was flushed remains through crashes, whatever was written since and lost; rot changes four bytes of it.
func TestWhatWasFlushedRemains(t *testing.T) {
	d := made(t, 6)
	for i := range 6 {
		written(t, d, i, i)
	}
	flushed(t, d)
	for round := range 20 {
		for i := range 3 {
			written(t, d, (round+i)%6, 60+round)
		}
		d.Crash(^uint64(7))
		for i := range 6 {
			reads(t, "flushed", d, i, block(i))
		}
	}
	rots(t, "flushed", d, 2, 100, 0xff, true)
	for bits := range uint64(8) {
		d.Crash(bits)
		reads(t, "rotten", d, 2, rotten(block(2), 100, 0xff))
		reads(t, "beside it", d, 3, block(3))
	}
}

// P6.7: sector by sector, what wasn't flushed is there completely behind a crash, or what was there before it is.
func TestStoredCompletelyOrNotAtAll(t *testing.T) {
	for bits := range uint64(1 << 6) {
		d := made(t, 6)
		for i := range 6 {
			written(t, d, i, i)
		}
		flushed(t, d)
		for i := range 6 {
			written(t, d, i, 100+i)
		}
		d.Crash(bits)
		for i := range 6 {
			want := block(i)
			if bitOf(bits, i) {
				want = block(100 + i)
			}
			reads(t, "crashed", d, i, want)
		}
	}
}

// act does something to a disk and to its model, and tells whether both answer alike.
type act func(d *Disk, m *model) bool

func writeAct(i, salt int) act {
	return func(d *Disk, m *model) bool {
		err := d.Write(i, block(salt))
		if !m.dead {
			m.write(i, block(salt))
		}
		return (err != nil) == m.dead
	}
}

func flushAct(d *Disk, m *model) bool {
	err := d.Flush()
	m.flush()
	return (err != nil) == m.dead
}

func crashAct(bits uint64) act {
	return func(d *Disk, m *model) bool {
		d.Crash(bits)
		m.crash(bits)
		return true
	}
}

func rotAct(i, at int, x uint32) act {
	return func(d *Disk, m *model) bool { return d.Rot(i, at, x) == m.rot(i, at, x) }
}

func dieAct(d *Disk, m *model) bool {
	d.Die()
	m.die(true)
	return true
}

func replaceAct(d *Disk, m *model) bool {
	d.Replace()
	m.die(false)
	return true
}

// P6.2 to P6.7: every run of four acts out of those that a disk with two sectors can tell apart
func TestEveryShortRun(t *testing.T) {
	acts := []act{writeAct(0, 1), writeAct(0, 2), writeAct(1, 3), flushAct, crashAct(0), crashAct(1), crashAct(2), crashAct(3),
		rotAct(0, 0, 0xff00ff00), rotAct(1, 124, 1), dieAct, replaceAct}
	runs := 1
	for range 4 {
		runs *= len(acts)
	}
	for run := range runs {
		d, m := made(t, 2), modelOf(2)
		for rest, step := run, 0; step < 4; rest, step = rest/len(acts), step+1 {
			if !acts[rest%len(acts)](d, m) || !m.like(t, "a short run", d) {
				t.Fatalf("run %d, step %d", run, step)
			}
		}
	}
}

// next goes on to the next number of a fixed row that looks like none.
func next(seed *uint64) int {
	*seed = *seed*6364136223846793005 + 1442695040888963407
	return int(*seed >> 32)
}

// someAct tells an act that the row picks: more writes than all else, so that many sectors wait at a time.
func someAct(seed *uint64, sectors int) act {
	switch kind := next(seed) % 300; {
	case kind < 200:
		return writeAct(next(seed)%sectors, next(seed)%256)
	case kind < 280:
		return rotAct(next(seed)%sectors, next(seed)%125, uint32(next(seed))*uint32(next(seed)%2))
	case kind < 290:
		return crashAct(uint64(next(seed))<<32 ^ uint64(next(seed)))
	case kind < 298:
		return flushAct
	case kind < 299:
		return dieAct
	default:
		return replaceAct
	}
}

// P6.2 to P6.7: long runs of all kinds, on disks of several sizes
func TestLongRuns(t *testing.T) {
	for _, sectors := range []int{1, 2, 7, 65, api.MaxSectors} {
		d, m, seed := made(t, sectors), modelOf(sectors), uint64(sectors)
		for step := range 4000 {
			if !someAct(&seed, sectors)(d, m) || !m.like(t, "a long run", d) {
				t.Fatalf("%d sectors, step %d", sectors, step)
			}
		}
	}
}

// R4: the same calls have the same answers, on every disk.
func TestTheSameAgain(t *testing.T) {
	answers := func() (all []byte) {
		d, m, seed := made(t, 100), modelOf(100), uint64(5)
		for range 500 {
			someAct(&seed, 100)(d, m)
			for _, i := range d.Waits() {
				b, _ := d.Read(i)
				all = append(append(all, byte(i)), b[:9]...)
			}
		}
		return all
	}
	want := answers()
	for range 5 {
		if !bytes.Equal(answers(), want) {
			t.Fatal("the same calls have other answers")
		}
	}
}

// The chapter's example run.
func TestRuns(t *testing.T) {
	d := made(t, 3)
	for i := range 3 {
		written(t, d, i, 1+i)
	}
	d.Crash(2)
	reads(t, "index 0", d, 0, zeros())
	reads(t, "index 1", d, 1, block(2))
	reads(t, "index 2", d, 2, zeros())
	rots(t, "once", d, 1, 0, 5, true)
	rots(t, "again", d, 1, 0, 5, false)
	d.Die()
	_, err := d.Read(1)
	refused(t, "dead", err, "disk.Read", 1, api.ErrDown)
}
