package rack

import (
	"bytes"
	"errors"
	"math"
	"slices"
	"testing"

	"stave/api"
	"stave/fault"
	"stave/frame"
)

// block tells the bytes of a sector that are no frame; those of two salts from 0 to 255 differ at each place.
func block(salt int) []byte {
	b := make([]byte, api.Sector)
	for i := range b {
		b[i] = byte(salt + i*i + 3*i)
	}
	return b
}

// zeros tells what a new sector contains.
func zeros() []byte { return make([]byte, api.Sector) }

// rotten tells what rot makes of b: the bytes from position at on, turned by x, least significant byte first.
func rotten(b []byte, at int, x uint32) []byte {
	b = slices.Clone(b)
	for i, turn := range []uint32{x % 256, x / 256 % 256, x / 65536 % 256, x / 16777216} {
		b[at+i] ^= byte(turn)
	}
	return b
}

// someFrame tells a frame that is unlike those of all other salts from 0 on.
func someFrame(salt int) api.Frame {
	f := api.Frame{Kind: 1 + salt%3, Slot: salt % 8, Stripe: salt % 64, Gen: salt}
	for i := range f.Data {
		f.Data[i] = byte(salt*i + i)
	}
	return f
}

// made wants a rack of n disks of so many sectors.
func made(t *testing.T, n, sectors int) *Rack {
	t.Helper()
	r, err := New(n, sectors)
	if err != nil || r == nil {
		t.Fatalf("New(%d, %d) is %v, %#v", n, sectors, r, err)
	}
	return r
}

// done wants no error.
func done(t *testing.T, name string, err error) {
	t.Helper()
	if err != nil {
		t.Fatalf("%s: %#v", name, err)
	}
}

// written lets block(salt) wait.
func written(t *testing.T, r *Rack, i, sector, salt int) {
	t.Helper()
	done(t, "Write", r.Write(i, sector, block(salt)))
}

// reads wants Read to tell b.
func reads(t *testing.T, name string, r *Rack, i, sector int, b []byte) {
	t.Helper()
	got, err := r.Read(i, sector)
	if err != nil || !bytes.Equal(got, b) {
		t.Errorf("%s: disk %d, sector %d has % x, %#v, want % x", name, i, sector, got, err, b)
	}
}

// isOff wants the power to be off, or on.
func isOff(t *testing.T, name string, r *Rack, off bool) {
	t.Helper()
	if r.Off() != off {
		t.Errorf("%s: off is %v", name, r.Off())
	}
}

// at tells one layer of an error.
func at(op string, n int, err error) error { return api.Fault{Op: op, At: n, Err: err} }

// same tells whether two errors are alike, layer by layer.
func same(err, want error) bool {
	var f, g api.Fault
	for errors.As(err, &f) && errors.As(want, &g) {
		if f.Op != g.Op || f.At != g.At {
			return false
		}
		err, want = f.Err, g.Err
	}
	return err == want
}

// refused wants this error, with all its layers, and its kind through all of them.
func refused(t *testing.T, name string, err, want error) {
	t.Helper()
	if !same(err, want) {
		t.Errorf("%s: refused with %#v, want %#v", name, err, want)
	}
	if kind := fault.Kind(want); kind == 0 || fault.Kind(err) != kind || !errors.Is(err, kind) {
		t.Errorf("%s: refused with %#v, which is no %d", name, err, kind)
	}
}

// none are numbers of which a row of so many has none.
func none(many int) []int {
	return []int{-1, many, many + 1, -2, -many, 256, -256, 1 << 32, 1<<32 + 1, -1 << 32, math.MaxInt, math.MinInt, math.MinInt + 1}
}

// badBlocks are blocks of the wrong size, some of which have the memory of a right one.
func badBlocks() [][]byte {
	return [][]byte{nil, {}, {1}, block(1)[:api.Sector-1], block(2)[1:], make([]byte, api.Sector+1), append(block(3), 9),
		make([]byte, 2*api.Sector), make([]byte, api.Sector, 2*api.Sector)[:0]}
}

// modelSector is what a sector stores, what waits for it (nil: nothing), and whether it has rotted.
type modelSector struct {
	stored, waiting []byte
	rotted          bool
}

// modelDisk is a disk as the chapter on disks says it.
type modelDisk struct {
	dead    bool
	sectors []modelSector
}

func (m *modelDisk) renew() {
	for i := range m.sectors {
		m.sectors[i] = modelSector{stored: zeros()}
	}
}

// settle stores what waits where the next of bits is 1, from the lowest on, and loses the rest.
func (m *modelDisk) settle(bits uint64) {
	index := 0
	for i, s := range m.sectors {
		if s.waiting == nil {
			continue
		}
		if bits&(1<<(index%64)) != 0 {
			m.sectors[i] = modelSector{stored: s.waiting}
		}
		m.sectors[i].waiting = nil
		index++
	}
}

// model is a rack as the chapter says it. Of remaining, -1: no power failure is armed.
type model struct {
	disks     []modelDisk
	off       bool
	remaining int
}

func modelOf(n, sectors int) *model {
	m := &model{disks: make([]modelDisk, n), remaining: -1}
	for i := range m.disks {
		m.disks[i].sectors = make([]modelSector, sectors)
		m.disks[i].renew()
	}
	return m
}

// operation tells how an operation on disk i ends; if it ends well, it is to be done.
func (m *model) operation(op string, i int, possible bool) error {
	switch {
	case i < 0 || i >= len(m.disks):
		return at(op, i, api.ErrArg)
	case m.off || m.disks[i].dead:
		return at(op, i, api.ErrDown)
	case !possible:
		return at(op, i, api.ErrArg)
	case m.remaining == 0:
		m.off = true
		return at(op, i, api.ErrDown)
	case m.remaining > 0:
		m.remaining--
	}
	return nil
}

func (m *model) write(i, sector int, b []byte) error {
	sectors := len(m.disks[0].sectors)
	err := m.operation("rack.Write", i, 0 <= sector && sector < sectors && len(b) == 128)
	if err == nil {
		m.disks[i].sectors[sector].waiting = slices.Clone(b)
	}
	return err
}

func (m *model) flush(i int) error {
	err := m.operation("rack.Flush", i, true)
	if err == nil {
		m.disks[i].settle(math.MaxUint64)
	}
	return err
}

func (m *model) read(i, sector int) ([]byte, error) {
	if i < 0 || i >= len(m.disks) {
		return nil, at("rack.Read", i, api.ErrArg)
	}
	if m.off {
		return nil, at("rack.Read", i, api.ErrDown)
	}
	if m.disks[i].dead {
		return nil, at("rack.Read", i, at("disk.Read", sector, api.ErrDown))
	}
	if sector < 0 || sector >= len(m.disks[i].sectors) {
		return nil, at("rack.Read", i, at("disk.Read", sector, api.ErrArg))
	}
	if s := m.disks[i].sectors[sector]; s.waiting == nil {
		return s.stored, nil
	} else {
		return s.waiting, nil
	}
}

func (m *model) arm(n int) { m.remaining = max(n, -1) }

func (m *model) boot(bits []uint64) {
	bits = append(slices.Clone(bits), make([]uint64, len(m.disks))...)
	for i := range m.disks {
		m.disks[i].settle(bits[i])
	}
	m.off, m.remaining = false, -1
}

func (m *model) die(i int, dead bool) bool {
	if i < 0 || i >= len(m.disks) {
		return false
	}
	m.disks[i].dead = dead
	m.disks[i].renew()
	return true
}

func (m *model) rot(i, sector, place int, x uint32) bool {
	if i < 0 || i >= len(m.disks) || m.disks[i].dead || sector < 0 || sector >= len(m.disks[i].sectors) || place < 0 || place > 124 || x == 0 {
		return false
	}
	s := &m.disks[i].sectors[sector]
	if s.rotted {
		return false
	}
	s.stored, s.rotted = rotten(s.stored, place, x), true
	return true
}

func (m *model) online() (up []int) {
	for i, d := range m.disks {
		if !d.dead {
			up = append(up, i)
		}
	}
	return up
}

// like wants everything that a rack tells to be as the model has it. While the power is off, that is little.
func (m *model) like(t *testing.T, name string, r *Rack) bool {
	t.Helper()
	sectors := len(m.disks[0].sectors)
	good := r.N() == len(m.disks) && r.Sectors() == sectors && r.Off() == m.off && slices.Equal(r.Online(), m.online())
	for i := -1; i <= len(m.disks); i++ {
		good = good && r.Up(i) == slices.Contains(m.online(), i)
		for sector := -1; sector <= sectors; sector++ {
			got, err := r.Read(i, sector)
			want, wantErr := m.read(i, sector)
			good = good && bytes.Equal(got, want) && same(err, wantErr)
		}
	}
	if !good {
		t.Errorf("%s: not as the chapter has it", name)
	}
	return good
}

// P8.1: every number of disks, and some of sectors, the least and the greatest among them
func TestNew(t *testing.T) {
	for n := 1; n <= api.MaxN; n++ {
		for _, sectors := range []int{1, 2, 3, 64, api.MaxSectors - 1, api.MaxSectors} {
			r := made(t, n, sectors)
			if r.N() != n || r.Sectors() != sectors || r.Off() || len(r.Online()) != n {
				t.Errorf("New(%d, %d): %d, %d, off: %v, online: %v", n, sectors, r.N(), r.Sectors(), r.Off(), r.Online())
			}
			modelOf(n, sectors).like(t, "a new rack", r)
		}
	}
}

// P8.1: no power failure is armed, however many operations there are.
func TestNewIsNotArmed(t *testing.T) {
	r := made(t, 2, 2)
	for step := range 3000 {
		written(t, r, step%2, step/2%2, step)
		done(t, "Flush", r.Flush(step%2))
	}
	isOff(t, "a new rack", r, false)
}

// P8.1: too few disks, too many, sectors that package disk refuses, and both: then the disks are told first.
func TestNewRefused(t *testing.T) {
	badNs := append(none(api.MaxN+1), 0, -api.MaxN, 1<<32+2)
	badSectors := append(none(api.MaxSectors+1), 0, 257)
	for _, n := range badNs {
		for _, sectors := range append(badSectors, 1, 5, api.MaxSectors) {
			r, err := New(n, sectors)
			if r != nil {
				t.Errorf("New(%d, %d) made a rack", n, sectors)
			}
			refused(t, "disks", err, at("rack.New", n, api.ErrArg))
		}
	}
	for n := 1; n <= api.MaxN; n++ {
		for _, sectors := range badSectors {
			r, err := New(n, sectors)
			if r != nil {
				t.Errorf("New(%d, %d) made a rack", n, sectors)
			}
			refused(t, "sectors", err, at("rack.New", n, at("disk.New", sectors, api.ErrArg)))
		}
	}
}

// P8.1, Ways: what package fault tells of an error through three layers
func TestThreeLayers(t *testing.T) {
	_, err := New(3, 200)
	err = fault.Wrap("above", 7, err)
	op, where, ok := fault.Where(err)
	if path := fault.Path(err); !slices.Equal(path, []string{"above", "rack.New", "disk.New"}) || op != "disk.New" || where != 200 || !ok {
		t.Errorf("New: %v, %s, %d, %v", path, op, where, ok)
	}
	if !errors.Is(err, api.ErrArg) || fault.Kind(err) != api.ErrArg || fault.First(err, api.ErrDown, api.ErrArg) != 1 {
		t.Errorf("New: %#v", err)
	}
	r := made(t, 3, 4)
	r.Die(1)
	_, err = r.Read(1, 9)
	err = fault.Wrap("above", 7, err)
	op, where, ok = fault.Where(err)
	if path := fault.Path(err); !slices.Equal(path, []string{"above", "rack.Read", "disk.Read"}) || op != "disk.Read" || where != 9 || !ok {
		t.Errorf("Read: %v, %s, %d, %v", path, op, where, ok)
	}
	if !errors.Is(err, api.ErrDown) || fault.Kind(err) != api.ErrDown {
		t.Errorf("Read: %#v", err)
	}
}

// P8.1: neither the disks of a rack nor two racks share anything.
func TestNothingIsShared(t *testing.T) {
	for i := range 3 {
		r, m, other := made(t, 3, 2), modelOf(3, 2), made(t, 3, 2)
		check := func(name string) {
			t.Helper()
			m.like(t, name, r)
			modelOf(3, 2).like(t, name+": the other rack", other)
		}
		written(t, r, i, 0, 1)
		m.write(i, 0, block(1))
		check("one writes")
		done(t, "Flush", r.Flush((i+1)%3))
		m.flush((i + 1) % 3)
		r.Boot()
		m.boot(nil)
		check("another flushed")
		written(t, r, i, 1, 2)
		done(t, "Flush", r.Flush(i))
		m.write(i, 1, block(2))
		m.flush(i)
		check("it flushed")
		if !r.Rot(i, 1, 3, 5) {
			t.Errorf("Rot of disk %d", i)
		}
		m.rot(i, 1, 3, 5)
		check("it rots")
		for j := range 3 {
			if r.Rot(j, 1, 3, 5) != (j != i) {
				t.Errorf("Rot of disk %d behind one of disk %d", j, i)
			}
			m.rot(j, 1, 3, 5)
		}
		check("all rot")
		r.Die(i)
		m.die(i, true)
		check("it dies")
		r.Arm(0)
		r.Flush((i + 1) % 3)
		m.off = true
		check("the power is off")
	}
}

// P8.2: each set of dead disks, of each rack
func TestUpAndOnline(t *testing.T) {
	for n := 1; n <= api.MaxN; n++ {
		for dead := range 1 << n {
			r := made(t, n, 1)
			var want []int
			for i := n - 1; i >= 0; i-- {
				if dead>>i&1 == 1 {
					r.Die(i)
				} else {
					want = append([]int{i}, want...)
				}
			}
			if got := r.Online(); !slices.Equal(got, want) {
				t.Errorf("of %d, dead %b: online are %v", n, dead, got)
			}
			for i := range n {
				if r.Up(i) != (dead>>i&1 == 0) {
					t.Errorf("of %d, dead %b: %d is up: %v", n, dead, i, r.Up(i))
				}
			}
			for _, i := range none(n) {
				if r.Up(i) {
					t.Errorf("of %d: %d is up", n, i)
				}
			}
		}
	}
}

// P8.2: the power has nothing to do with which disks are up, and these nothing with the power.
func TestUpWithThePowerOff(t *testing.T) {
	r := made(t, 3, 2)
	r.Die(1)
	r.Arm(0)
	isOff(t, "armed", r, false)
	r.Flush(0)
	isOff(t, "failed", r, true)
	if !slices.Equal(r.Online(), []int{0, 2}) || !r.Up(0) || r.Up(1) || !r.Up(2) {
		t.Errorf("off: online are %v", r.Online())
	}
	r.Replace(1)
	r.Die(0)
	isOff(t, "off", r, true)
	if !slices.Equal(r.Online(), []int{1, 2}) || r.Up(0) || !r.Up(1) {
		t.Errorf("off: online are %v", r.Online())
	}
	r.Die(1)
	r.Die(2)
	if len(r.Online()) != 0 {
		t.Errorf("all dead: online are %v", r.Online())
	}
	r.Boot()
	isOff(t, "all dead, booted", r, false)
	if len(r.Online()) != 0 || r.Up(0) {
		t.Errorf("all dead, booted: online are %v", r.Online())
	}
}

// P8.2, R2: what Online tells is the caller's own, with its capacity.
func TestOnlineTellsNewMemory(t *testing.T) {
	r := made(t, 4, 1)
	first, second := r.Online(), r.Online()
	for i := range first[:cap(first)] {
		first[:cap(first)][i] = 9
	}
	if !slices.Equal(second, []int{0, 1, 2, 3}) || !slices.Equal(r.Online(), second) {
		t.Errorf("behind a changed answer: %v, %v", second, r.Online())
	}
	r.Die(1)
	r.Online()
	if !slices.Equal(second, []int{0, 1, 2, 3}) {
		t.Errorf("the answer changes with the rack: %v", second)
	}
}

// P8.3: what is written waits, at that place alone: it is read, a power failure may lose it, and Flush of its disk
// stores all that waits there.
func TestWriteAndFlush(t *testing.T) {
	for _, size := range [][2]int{{1, 1}, {2, 3}, {api.MaxN, 2}, {2, api.MaxSectors}} {
		n, sectors := size[0], size[1]
		for i := range n {
			for sector := range sectors {
				r, m := made(t, n, sectors), modelOf(n, sectors)
				written(t, r, i, sector, 1)
				m.write(i, sector, block(1))
				m.like(t, "written", r)
				if i+sector == 0 || sectors < 4 {
					r.Boot()
					modelOf(n, sectors).like(t, "written and lost", r)
					written(t, r, i, sector, 1)
					written(t, r, i, sector, 2)
					m.write(i, sector, block(2))
				}
				done(t, "Flush", r.Flush(i))
				m.flush(i)
				r.Boot()
				m.like(t, "flushed", r)
			}
		}
	}
}

// P8.3: Flush of a disk stores nothing of what waits on others.
func TestFlushOfOneDisk(t *testing.T) {
	for i := range 4 {
		r, m := made(t, 4, 2), modelOf(4, 2)
		for j := range 4 {
			for sector := range 2 {
				written(t, r, j, sector, 2*j+sector)
				m.write(j, sector, block(2*j+sector))
			}
		}
		done(t, "Flush", r.Flush(i))
		m.flush(i)
		r.Boot()
		m.boot(nil)
		m.like(t, "flushed and booted", r)
		reads(t, "flushed", r, i, 1, block(2*i+1))
		reads(t, "not flushed", r, (i+1)%4, 1, zeros())
	}
}

// reason is one of those for which Write, Flush or Read may be refused.
type reason int

const (
	noDisk reason = 1 << iota
	powerOff
	deadDisk
	noSector
	badBlock
	allReasons
)

// troubled makes a rack and its model with something written, and brings about those of the reasons that are the
// rack's own. Disk 1 is the one that is dead. If the power is on, n operations remain.
func troubled(t *testing.T, reasons reason, n int) (*Rack, *model) {
	t.Helper()
	r, m := made(t, 3, 2), modelOf(3, 2)
	for i := range 3 {
		written(t, r, i, 0, i)
		m.write(i, 0, block(i))
	}
	if reasons&deadDisk != 0 {
		r.Die(1)
		m.die(1, true)
	}
	r.Arm(n)
	m.arm(n)
	if reasons&powerOff != 0 {
		r.Arm(0)
		m.arm(0)
		r.Flush(0)
		m.flush(0)
	}
	return r, m
}

// unused wants that just n operations remain; if the power is off already, that it stays so, and that Boot alone
// puts it on.
func unused(t *testing.T, name string, r *Rack, m *model, n int) {
	t.Helper()
	m.like(t, name, r)
	for range n {
		if !same(r.Flush(0), m.flush(0)) {
			t.Fatalf("%s: too few operations remain", name)
		}
	}
	isOff(t, name, r, m.off)
	if !same(r.Flush(0), m.flush(0)) || !r.Off() {
		t.Fatalf("%s: too many operations remain", name)
	}
	r.Boot()
	m.boot(nil)
	m.like(t, name+", booted", r)
}

// refusal tells the bare error of the first of the reasons for op, as the chapter orders them, 0 if there is none.
func refusal(reasons reason) api.Errno {
	switch {
	case reasons&noDisk != 0:
		return api.ErrArg
	case reasons&(powerOff|deadDisk) != 0:
		return api.ErrDown
	case reasons&(noSector|badBlock) != 0:
		return api.ErrArg
	}
	return 0
}

// P8.3: each set of reasons; what is refused changes nothing and uses up no operation.
func TestWriteRefused(t *testing.T) {
	for reasons := reason(1); reasons < allReasons; reasons++ {
		disks, sectors, blocks := []int{1}, []int{0, 1}, [][]byte{block(50)}
		if reasons&noDisk != 0 {
			disks = none(3)
		}
		if reasons&noSector != 0 {
			sectors = none(2)
		}
		if reasons&badBlock != 0 {
			blocks = badBlocks()
		}
		for _, n := range []int{0, 1, 2} {
			r, m := troubled(t, reasons, n)
			for _, i := range disks {
				for _, sector := range sectors {
					for _, b := range blocks {
						refused(t, "Write", r.Write(i, sector, b), at("rack.Write", i, refusal(reasons)))
						isOff(t, "refused", r, reasons&powerOff != 0)
					}
				}
			}
			unused(t, "behind refusals of Write", r, m, n)
		}
	}
}

// P8.3: each set of reasons; what is refused changes nothing and uses up no operation.
func TestFlushRefused(t *testing.T) {
	for reasons := reason(1); reasons < noSector; reasons++ {
		disks := []int{1}
		if reasons&noDisk != 0 {
			disks = none(3)
		}
		for _, n := range []int{0, 1, 2} {
			r, m := troubled(t, reasons, n)
			for _, i := range disks {
				refused(t, "Flush", r.Flush(i), at("rack.Flush", i, refusal(reasons)))
				isOff(t, "refused", r, reasons&powerOff != 0)
			}
			unused(t, "behind refusals of Flush", r, m, n)
		}
	}
}

// P8.4: each set of reasons; those that lie in the disk have its layer too. None uses up an operation.
func TestReadRefused(t *testing.T) {
	for reasons := reason(1); reasons < badBlock; reasons++ {
		disks, sectors := []int{1}, []int{0, 1}
		if reasons&noDisk != 0 {
			disks = none(3)
		}
		if reasons&noSector != 0 {
			sectors = none(2)
		}
		for _, n := range []int{0, 1, 2} {
			r, m := troubled(t, reasons, n)
			for _, i := range disks {
				for _, sector := range sectors {
					b, err := r.Read(i, sector)
					if b != nil {
						t.Errorf("Read(%d, %d) is %v", i, sector, b)
					}
					if reasons&(noDisk|powerOff) != 0 {
						refused(t, "Read", err, at("rack.Read", i, refusal(reasons)))
					} else {
						refused(t, "Read", err, at("rack.Read", i, at("disk.Read", sector, refusal(reasons))))
					}
					isOff(t, "refused", r, reasons&powerOff != 0)
				}
			}
			unused(t, "behind refusals of Read", r, m, n)
		}
	}
}

// P8.3: the disk that is dead is the one that is asked for: others go on, and use up operations.
func TestOthersGoOn(t *testing.T) {
	r := made(t, 3, 2)
	r.Die(1)
	r.Arm(3)
	refused(t, "dead", r.Write(1, 0, block(1)), at("rack.Write", 1, api.ErrDown))
	written(t, r, 0, 0, 1)
	refused(t, "dead", r.Flush(1), at("rack.Flush", 1, api.ErrDown))
	written(t, r, 2, 1, 2)
	done(t, "Flush", r.Flush(2))
	reads(t, "written", r, 0, 0, block(1))
	refused(t, "dead", r.Flush(1), at("rack.Flush", 1, api.ErrDown))
	isOff(t, "dead", r, false)
	refused(t, "none remains", r.Flush(0), at("rack.Flush", 0, api.ErrDown))
	isOff(t, "none remains", r, true)
}

// P8.3: with none remaining, the operation has no effect, and its error is told with its own disk.
func TestNoneRemains(t *testing.T) {
	for i := range 3 {
		r, m := made(t, 3, 2), modelOf(3, 2)
		written(t, r, i, 0, 1)
		m.write(i, 0, block(1))
		r.Arm(0)
		isOff(t, "armed", r, false)
		m.like(t, "armed", r)
		refused(t, "Write", r.Write(i, 1, block(2)), at("rack.Write", i, api.ErrDown))
		isOff(t, "Write", r, true)
		r.Boot(math.MaxUint64, math.MaxUint64, math.MaxUint64)
		m.boot([]uint64{math.MaxUint64, math.MaxUint64, math.MaxUint64})
		m.like(t, "behind a failed Write", r)
		written(t, r, i, 1, 3)
		r.Arm(0)
		refused(t, "Flush", r.Flush(i), at("rack.Flush", i, api.ErrDown))
		isOff(t, "Flush", r, true)
		r.Boot()
		m.like(t, "behind a failed Flush", r)
	}
}

// P8.3, R2, R5: what Write is given stays, with the memory around it, and is not kept.
func TestWriteLeavesItsArgument(t *testing.T) {
	r := made(t, 2, 3)
	for sector := range 3 {
		memory := bytes.Repeat([]byte{99}, 2*api.Sector)
		b := memory[5 : 5+api.Sector]
		copy(b, block(sector))
		was := slices.Clone(memory)
		done(t, "Write", r.Write(0, sector, b))
		done(t, "Write", r.Write(1, sector, b))
		if !bytes.Equal(memory, was) {
			t.Errorf("the memory became % x", memory)
		}
		overwrite(b)
		reads(t, "what waits", r, 0, sector, block(sector))
		done(t, "Flush", r.Flush(0))
		overwrite(b)
		b[7]++
		reads(t, "what is stored", r, 0, sector, block(sector))
		r.Boot(0, math.MaxUint64)
		reads(t, "what a crash stored", r, 1, sector, block(sector))
	}
	b := block(30)
	r.Write(0, 0, b)
	r.Flush(0)
	r.Rot(0, 0, 0, math.MaxUint32)
	if !bytes.Equal(b, block(30)) {
		t.Errorf("Rot changed what was given to % x", b)
	}
}

// overwrite changes a slice and all of its unused capacity.
func overwrite(b []byte) {
	b = b[:cap(b)]
	for i := range b {
		b[i] ^= 255
	}
}

// P8.4: what waits, or else what is stored; with rot, and behind a crash
func TestRead(t *testing.T) {
	r := made(t, 2, 3)
	reads(t, "new", r, 0, 0, zeros())
	written(t, r, 1, 2, 1)
	reads(t, "what waits", r, 1, 2, block(1))
	reads(t, "another disk", r, 0, 2, zeros())
	reads(t, "another sector", r, 1, 1, zeros())
	done(t, "Flush", r.Flush(1))
	reads(t, "stored", r, 1, 2, block(1))
	r.Rot(1, 2, 124, 0x01020304)
	reads(t, "rotten", r, 1, 2, rotten(block(1), 124, 0x01020304))
	written(t, r, 1, 2, 2)
	reads(t, "what waits again", r, 1, 2, block(2))
	r.Boot()
	reads(t, "lost", r, 1, 2, rotten(block(1), 124, 0x01020304))
	written(t, r, 1, 2, 3)
	r.Boot(0, 1)
	reads(t, "stored by a crash", r, 1, 2, block(3))
	r.Replace(1)
	reads(t, "replaced", r, 1, 2, zeros())
}

// P8.4, R2: what Read tells is the caller's own.
func TestReadTellsNewMemory(t *testing.T) {
	r := made(t, 1, 3)
	written(t, r, 0, 1, 1)
	done(t, "Flush", r.Flush(0))
	written(t, r, 0, 2, 2)
	for sector, want := range [][]byte{zeros(), block(1), block(2)} {
		first, _ := r.Read(0, sector)
		second, _ := r.Read(0, sector)
		overwrite(first)
		if !bytes.Equal(second, want) {
			t.Errorf("sector %d: one answer changes with another", sector)
		}
		reads(t, "behind a changed answer", r, 0, sector, want)
		r.Rot(0, sector, 0, 1)
		r.Write(0, sector, block(9))
		r.Flush(0)
		if !bytes.Equal(second, want) {
			t.Errorf("sector %d: the answer changes with the rack", sector)
		}
	}
}

// asked is what Get is asked for.
type asked struct{ i, sector, kind, slot, stripe int }

// got tells what Get answers.
func (a asked) got(r *Rack) (api.Frame, bool) { return r.Get(a.i, a.sector, a.kind, a.slot, a.stripe) }

// gets wants Get to tell this frame.
func gets(t *testing.T, name string, r *Rack, a asked, want api.Frame) {
	t.Helper()
	if f, ok := a.got(r); !ok || f != want {
		t.Errorf("%s: Get of %v is %v, %v", name, a, f, ok)
	}
}

// getsNone wants Get to tell that there is no such frame.
func getsNone(t *testing.T, name string, r *Rack, a asked) {
	t.Helper()
	if f, ok := a.got(r); ok || f != (api.Frame{}) {
		t.Errorf("%s: Get of %v is %v, %v", name, a, f, ok)
	}
}

// negatives are stripes that stand for all.
func negatives() []int {
	return []int{-1, -2, -5, -64, -256, -1 << 31, -1 << 32, math.MinInt, math.MinInt + 1}
}

// P8.4: each frame where it stands, asked for by its stripe, and by none
func TestGet(t *testing.T) {
	r := made(t, 4, 40)
	for salt := range 4 * 40 {
		done(t, "Write", r.Write(salt/40, salt%40, frame.Put(someFrame(salt))))
	}
	check := func(name string) {
		for salt := range 4 * 40 {
			f := someFrame(salt)
			gets(t, name, r, asked{salt / 40, salt % 40, f.Kind, f.Slot, f.Stripe}, f)
			for _, stripe := range negatives() {
				gets(t, name, r, asked{salt / 40, salt % 40, f.Kind, f.Slot, stripe}, f)
			}
		}
	}
	check("waiting")
	for i := range 4 {
		done(t, "Flush", r.Flush(i))
	}
	r.Boot()
	check("stored")
}

// P8.4: every kind, slot and stripe that a frame has, against every other one at one of the three places
func TestGetOfAnother(t *testing.T) {
	for _, f := range []api.Frame{someFrame(0), someFrame(1), someFrame(5), someFrame(63), {Kind: api.KStripe, Slot: 7, Stripe: 63, Gen: api.MaxSeq}} {
		r := made(t, 1, 1)
		done(t, "Write", r.Write(0, 0, frame.Put(f)))
		a := asked{0, 0, f.Kind, f.Slot, f.Stripe}
		gets(t, "as it is", r, a, f)
		for _, n := range append(none(70), slices.Sorted(numbers(70))...) {
			for _, stripe := range []int{f.Stripe, -1} {
				if n != f.Kind {
					getsNone(t, "another kind", r, asked{0, 0, n, f.Slot, stripe})
				}
				if n != f.Slot {
					getsNone(t, "another slot", r, asked{0, 0, f.Kind, n, stripe})
				}
			}
			if n != f.Stripe && n >= 0 {
				getsNone(t, "another stripe", r, asked{0, 0, f.Kind, f.Slot, n})
			}
		}
		gets(t, "still", r, a, f)
	}
}

// numbers tells those from 0 on below many.
func numbers(many int) func(yield func(int) bool) {
	return func(yield func(int) bool) {
		for n := range many {
			if !yield(n) {
				return
			}
		}
	}
}

// P8.4: bytes that are no frame, in a new sector, in a rotten one, and written so
func TestGetOfNoFrame(t *testing.T) {
	r := made(t, 2, 3)
	f := someFrame(8)
	a := asked{1, 1, f.Kind, f.Slot, f.Stripe}
	getsNone(t, "a new sector", r, a)
	getsNone(t, "a new sector", r, asked{})
	getsNone(t, "a new sector", r, asked{1, 1, 0, 0, -1})
	written(t, r, 1, 1, 5)
	getsNone(t, "other bytes", r, a)
	b := frame.Put(f)
	for i := range b {
		wrong := slices.Clone(b)
		wrong[i] ^= 1
		done(t, "Write", r.Write(1, 1, wrong))
		getsNone(t, "a wrong byte", r, a)
	}
	done(t, "Write", r.Write(1, 1, b))
	done(t, "Flush", r.Flush(1))
	gets(t, "stored", r, a, f)
	for place := range api.Sector - 3 {
		done(t, "Write", r.Write(1, 1, b))
		done(t, "Flush", r.Flush(1))
		r.Rot(1, 1, place, 0x80000001)
		getsNone(t, "rotten", r, a)
		done(t, "Write", r.Write(1, 1, b))
		gets(t, "waits over what is rotten", r, a, f)
		r.Boot()
		getsNone(t, "rotten again", r, a)
	}
}

// P8.4: no such disk, no such sector, a dead disk, the power off, each with a frame all around
func TestGetWhereNoneCanBeRead(t *testing.T) {
	f := someFrame(3)
	r := made(t, 3, 2)
	for i := range 3 {
		for sector := range 2 {
			done(t, "Write", r.Write(i, sector, frame.Put(f)))
		}
		done(t, "Flush", r.Flush(i))
	}
	asks := func(i, sector int) []asked {
		return []asked{{i, sector, f.Kind, f.Slot, f.Stripe}, {i, sector, f.Kind, f.Slot, -1}}
	}
	for _, i := range none(3) {
		for _, sector := range append(none(2), 0, 1) {
			for _, a := range asks(i, sector) {
				getsNone(t, "no disk", r, a)
			}
		}
	}
	for _, sector := range none(2) {
		for _, a := range asks(1, sector) {
			getsNone(t, "no sector", r, a)
		}
	}
	r.Arm(0)
	for _, a := range asks(1, 1) {
		gets(t, "armed", r, a, f)
	}
	r.Flush(1)
	for _, a := range slices.Concat(asks(1, 1), asks(0, 0), asks(3, 0), asks(0, 2)) {
		getsNone(t, "off", r, a)
	}
	r.Boot()
	for _, a := range asks(1, 1) {
		gets(t, "booted", r, a, f)
	}
	r.Die(1)
	for _, a := range slices.Concat(asks(1, 1), asks(1, 0), asks(1, 2)) {
		getsNone(t, "dead", r, a)
	}
	gets(t, "not dead", r, asks(2, 1)[0], f)
	r.Replace(1)
	for _, a := range asks(1, 1) {
		getsNone(t, "replaced", r, a)
	}
}

// performed tells how many of the next operations are performed, at most many, of Write and Flush in turns.
func performed(r *Rack, many int) int {
	for step := range many {
		var err error
		if step%2 == 0 {
			err = r.Write(0, 0, block(step))
		} else {
			err = r.Flush(0)
		}
		if err != nil {
			return step
		}
	}
	return many
}

// P8.5: as many operations as are told, then the power is off; Write and Flush count alike.
func TestArm(t *testing.T) {
	for n := range 60 {
		r := made(t, 2, 1)
		r.Arm(n)
		isOff(t, "armed", r, false)
		if got := performed(r, 100); got != n || !r.Off() {
			t.Errorf("Arm(%d): %d are performed, off: %v", n, got, r.Off())
		}
		r.Boot()
		if got := performed(r, 100); got != 100 || r.Off() {
			t.Errorf("Arm(%d), Boot: %d are performed", n, got)
		}
	}
	for _, n := range []int{256, 65536, 1 << 31, 1 << 32, 1 << 33, math.MaxInt} {
		r := made(t, 2, 1)
		r.Arm(n)
		if got := performed(r, 200); got != 200 || r.Off() {
			t.Errorf("Arm(%d): %d are performed", n, got)
		}
	}
}

// P8.5: a negative number arms none, and disarms what is armed.
func TestArmNegative(t *testing.T) {
	for _, n := range []int{-1, -2, -5, -256, -1 << 32, math.MinInt, math.MinInt + 1} {
		for _, before := range []int{-1, 0, 1, 5} {
			r := made(t, 2, 1)
			r.Arm(before)
			r.Arm(n)
			if got := performed(r, 300); got != 300 || r.Off() {
				t.Errorf("Arm(%d), Arm(%d): %d are performed", before, n, got)
			}
			r.Arm(2)
			if got := performed(r, 300); got != 2 || !r.Off() {
				t.Errorf("Arm(%d), Arm(%d), Arm(2): %d are performed", before, n, got)
			}
		}
	}
}

// P8.5: armed anew, the last number holds alone, whatever has been used up of the one before.
func TestArmAnew(t *testing.T) {
	for first := range 5 {
		for used := range first + 1 {
			for second := range 7 {
				r := made(t, 2, 1)
				r.Arm(first)
				if got := performed(r, used); got != used {
					t.Fatalf("Arm(%d): %d are performed", first, got)
				}
				r.Arm(second)
				isOff(t, "armed anew", r, false)
				if got := performed(r, 50); got != second || !r.Off() {
					t.Errorf("Arm(%d), %d used, Arm(%d): %d are performed", first, used, second, got)
				}
			}
		}
	}
}

// P8.5: Arm doesn't put the power on, and what is armed while it is off is gone with Boot.
func TestArmWithThePowerOff(t *testing.T) {
	for _, n := range []int{-1, 0, 1, 5, math.MaxInt, math.MinInt} {
		r := made(t, 2, 1)
		r.Arm(0)
		r.Flush(0)
		r.Arm(n)
		isOff(t, "armed while off", r, true)
		refused(t, "armed while off", r.Flush(0), at("rack.Flush", 0, api.ErrDown))
		r.Boot()
		if got := performed(r, 40); got != 40 || r.Off() {
			t.Errorf("Arm(%d) while off, Boot: %d are performed", n, got)
		}
	}
}

// P8.3, P8.4, P8.6: nothing but Write and Flush uses up an operation or puts the power off.
func TestWhatIsNoOperation(t *testing.T) {
	f := someFrame(2)
	acts := map[string]func(r *Rack){
		"Read":         func(r *Rack) { r.Read(0, 0) },
		"Read of none": func(r *Rack) { r.Read(5, 5) },
		"Get":          func(r *Rack) { r.Get(0, 1, f.Kind, f.Slot, f.Stripe) },
		"Get of none":  func(r *Rack) { r.Get(0, 0, 1, 1, 1) },
		"Die":          func(r *Rack) { r.Die(1) },
		"Die of none":  func(r *Rack) { r.Die(2) },
		"Replace":      func(r *Rack) { r.Replace(1) },
		"Rot":          func(r *Rack) { r.Rot(1, 0, 0, 1) },
		"questions":    func(r *Rack) { r.N(); r.Sectors(); r.Up(0); r.Online(); r.Off() },
	}
	for name, act := range acts {
		for n := range 4 {
			r := made(t, 2, 2)
			done(t, "Write", r.Write(0, 1, frame.Put(f)))
			r.Arm(n)
			for used := range n + 1 {
				act(r)
				isOff(t, name, r, false)
				err := r.Flush(0)
				if used < n {
					done(t, name, err)
					continue
				}
				refused(t, name, err, at("rack.Flush", 0, api.ErrDown))
				isOff(t, name, r, true)
			}
			act(r)
			isOff(t, name, r, true)
		}
	}
}

// P8.5, P8.7: off, the power stays so, whatever is called, till Boot.
func TestOffUntilBoot(t *testing.T) {
	r, m := made(t, 3, 2), modelOf(3, 2)
	written(t, r, 0, 0, 1)
	m.write(0, 0, block(1))
	done(t, "Flush", r.Flush(0))
	m.flush(0)
	written(t, r, 0, 1, 2)
	m.write(0, 1, block(2))
	r.Arm(0)
	m.arm(0)
	r.Flush(0)
	m.flush(0)
	for round := range 5 {
		for i := range 3 {
			refused(t, "Write", r.Write(i, round%2, block(9)), at("rack.Write", i, api.ErrDown))
			refused(t, "Flush", r.Flush(i), at("rack.Flush", i, api.ErrDown))
			b, err := r.Read(i, round%2)
			if b != nil {
				t.Errorf("Read with the power off is % x", b)
			}
			refused(t, "Read", err, at("rack.Read", i, api.ErrDown))
			r.Rot(2, 0, 0, 1)
			r.Die(1)
			r.Replace(1)
			r.Arm(5 - round*2)
		}
		isOff(t, "off", r, true)
	}
	m.rot(2, 0, 0, 1)
	r.Boot(1)
	m.boot([]uint64{1})
	m.like(t, "booted", r)
	reads(t, "flushed", r, 0, 0, block(1))
	reads(t, "what the crash stored", r, 0, 1, block(2))
}

// full makes a rack and its model in which every sector has something stored, and something that waits.
func full(t *testing.T, n, sectors int) (*Rack, *model) {
	t.Helper()
	r, m := made(t, n, sectors), modelOf(n, sectors)
	for round := range 2 {
		for i := range n {
			for sector := range sectors {
				salt := 128*round + i*sectors + sector
				written(t, r, i, sector, salt)
				m.write(i, sector, block(salt))
			}
			if round == 0 {
				done(t, "Flush", r.Flush(i))
				m.flush(i)
			}
		}
	}
	return r, m
}

// P8.5: bits for no disk, for some, for all, and for more than there are
func TestBoot(t *testing.T) {
	all := []uint64{5, 0xAAAAAAAAAAAAAAAA, 0, math.MaxUint64, 1, 6, 1 << 63, 2, 3, 4}
	for n := 1; n <= api.MaxN; n++ {
		for many := range len(all) + 1 {
			for _, off := range []bool{false, true} {
				r, m := full(t, n, 3)
				if off {
					r.Arm(0)
					r.Flush(0)
				}
				r.Boot(all[:many]...)
				m.boot(all[:many])
				if !m.like(t, "booted", r) {
					t.Errorf("%d disks, %d of bits, off: %v", n, many, off)
				}
			}
		}
	}
}

// P8.5: every pattern of bits for two disks; the element is that of its disk, and the bit that of its sector.
func TestBootOfEveryPattern(t *testing.T) {
	for first := range uint64(8) {
		for second := range uint64(8) {
			r, m := full(t, 2, 3)
			r.Boot(first, second)
			m.boot([]uint64{first, second})
			m.like(t, "booted", r)
			for sector := range 3 {
				if first>>sector&1 == 1 {
					reads(t, "stored", r, 0, sector, block(128+sector))
				} else {
					reads(t, "lost", r, 0, sector, block(sector))
				}
			}
		}
	}
	for _, bits := range [][]uint64{nil, {}, {0}, {0, 0, 0}} {
		r, m := full(t, 2, 3)
		r.Boot(bits...)
		m.boot(nil)
		m.like(t, "booted with no bits", r)
	}
}

// P8.5: with the power on, Boot loses what waits all the same, and disarms; behind it nothing waits any more.
func TestBootWithThePowerOn(t *testing.T) {
	for _, n := range []int{-1, 0, 1, 2, 10} {
		r, m := full(t, 2, 2)
		r.Arm(n)
		r.Boot(2)
		m.boot([]uint64{2})
		m.like(t, "booted", r)
		if got := performed(r, 20); got != 20 || r.Off() {
			t.Errorf("Arm(%d), Boot: %d are performed", n, got)
		}
	}
	r, m := full(t, 2, 2)
	r.Boot()
	r.Boot(math.MaxUint64, math.MaxUint64)
	m.boot(nil)
	m.like(t, "booted twice", r)
	done(t, "Flush", r.Flush(0))
	m.like(t, "nothing waits", r)
}

// P8.5: a dead disk has nothing to crash, stays dead, and has its place in bits.
func TestBootWithDeadDisks(t *testing.T) {
	for dead := range 3 {
		r, m := full(t, 3, 2)
		r.Die(dead)
		m.die(dead, true)
		r.Boot(1, 2, 3)
		m.boot([]uint64{1, 2, 3})
		m.like(t, "booted", r)
		r.Replace(dead)
		m.die(dead, false)
		r.Boot(3, 3, 3)
		m.like(t, "replaced and booted", r)
	}
}

// P8.5, R2: Boot leaves its argument, with the memory around it, and doesn't keep it.
func TestBootLeavesItsArgument(t *testing.T) {
	r, m := full(t, 3, 2)
	memory := []uint64{7, 1, 2, 7, 7}
	r.Boot(memory[1:3]...)
	m.boot([]uint64{1, 2})
	if !slices.Equal(memory, []uint64{7, 1, 2, 7, 7}) {
		t.Errorf("the memory became %v", memory)
	}
	m.like(t, "booted, with more in the memory behind", r)
	clear(memory)
	m.like(t, "booted, the memory cleared", r)
	written(t, r, 0, 0, 9)
	r.Boot()
	m.like(t, "booted with no bits", r)
}

// P8.6: whether the power is on or off: what they answer, and what they do
func TestDieReplaceRot(t *testing.T) {
	for _, off := range []bool{false, true} {
		r, m := full(t, 3, 2)
		power := func() {
			if off {
				r.Arm(0)
				r.Flush(0)
				isOff(t, "failed", r, true)
			}
		}
		boot := func(name string) {
			isOff(t, name, r, off)
			r.Boot(3, 3, 3)
			m.boot([]uint64{3, 3, 3})
			m.like(t, name, r)
		}
		power()
		for i := range 3 {
			if r.Rot(i, i%2, 10*i, 77) != m.rot(i, i%2, 10*i, 77) || r.Rot(i, i%2, 0, 1) {
				t.Errorf("off: %v: Rot of disk %d", off, i)
			}
		}
		boot("rotten below what waits")
		power()
		for i := range 3 {
			if !r.Rot(i, i%2, 10*i, 77) || r.Rot(i, i%2, 0, 1) {
				t.Errorf("off: %v: Rot of disk %d", off, i)
			}
			m.rot(i, i%2, 10*i, 77)
		}
		boot("rotten")
		power()
		if !r.Die(1) || !r.Die(1) || r.Up(1) || r.Rot(1, 0, 0, 1) {
			t.Errorf("off: %v: Die", off)
		}
		m.die(1, true)
		boot("dead")
		power()
		if !r.Replace(1) || !r.Replace(1) || !r.Up(1) {
			t.Errorf("off: %v: Replace", off)
		}
		m.die(1, false)
		boot("replaced")
		power()
		if !r.Replace(2) || !r.Up(2) || !r.Rot(1, 1, 124, 1<<31) {
			t.Errorf("off: %v: Replace of a disk that isn't dead", off)
		}
		m.die(2, false)
		m.rot(1, 1, 124, 1<<31)
		boot("replaced while up")
	}
}

// P8.6: no such disk, no such sector, no such place: nothing changes, on or off.
func TestDieReplaceRotRefused(t *testing.T) {
	r, m := full(t, 3, 2)
	for round := range 2 {
		for _, i := range none(3) {
			if r.Die(i) || r.Replace(i) {
				t.Errorf("Die or Replace of %d", i)
			}
			for _, sector := range append(none(2), 0, 1) {
				if r.Rot(i, sector, 0, 1) {
					t.Errorf("Rot of %d, %d", i, sector)
				}
			}
		}
		for _, sector := range none(2) {
			if r.Rot(1, sector, 0, 1) {
				t.Errorf("Rot of sector %d", sector)
			}
		}
		for _, place := range []int{-1, -4, 125, 126, 127, 128, 256, 1 << 32, math.MaxInt, math.MinInt} {
			if r.Rot(1, 1, place, 1) {
				t.Errorf("Rot at %d", place)
			}
		}
		if r.Rot(1, 1, 0, 0) {
			t.Errorf("Rot by 0")
		}
		if round == 0 {
			m.like(t, "refused", r)
			r.Arm(0)
			r.Flush(0)
		}
	}
	r.Boot()
	m.boot(nil)
	m.like(t, "refused while off", r)
	if !r.Rot(1, 1, 124, 1) || !r.Rot(0, 0, 0, 1) {
		t.Error("Rot behind refusals")
	}
}

// P8.7: for each way of six operations on two disks, and each number of those that are performed
func TestArmPerformsJustSoMany(t *testing.T) {
	const steps = 6
	for way := range 1 << (2 * steps) {
		n := way % (steps + 1)
		r, m := made(t, 2, 2), modelOf(2, 2)
		r.Arm(n)
		for step := range steps {
			i, flush := way>>(2*step)&1, way>>(2*step+1)&1 == 1
			var err error
			if flush {
				err = r.Flush(i)
			} else {
				err = r.Write(i, step%2, block(step))
			}
			if (err == nil) != (step < n) || r.Off() != (step >= n) {
				t.Fatalf("way %b, Arm(%d), step %d: %#v, off: %v", way, n, step, err, r.Off())
			}
			switch {
			case step >= n:
			case flush:
				m.flush(i)
			default:
				m.write(i, step%2, block(step))
			}
		}
		isOff(t, "all done", r, n < steps)
		r.Boot(2, 1)
		m.boot([]uint64{2, 1})
		m.like(t, "booted", r)
	}
}

// act does something to a rack and to its model, and tells whether both answer alike.
type act func(r *Rack, m *model) bool

func writeAct(i, sector, salt int) act {
	return func(r *Rack, m *model) bool {
		return same(r.Write(i, sector, block(salt)), m.write(i, sector, block(salt)))
	}
}

func flushAct(i int) act {
	return func(r *Rack, m *model) bool { return same(r.Flush(i), m.flush(i)) }
}

func armAct(n int) act {
	return func(r *Rack, m *model) bool {
		r.Arm(n)
		m.arm(n)
		return true
	}
}

func bootAct(bits ...uint64) act {
	return func(r *Rack, m *model) bool {
		r.Boot(bits...)
		m.boot(bits)
		return true
	}
}

func dieAct(i int) act {
	return func(r *Rack, m *model) bool { return r.Die(i) == m.die(i, true) }
}

func replaceAct(i int) act {
	return func(r *Rack, m *model) bool { return r.Replace(i) == m.die(i, false) }
}

func rotAct(i, sector, place int, x uint32) act {
	return func(r *Rack, m *model) bool {
		return r.Rot(i, sector, place, x) == m.rot(i, sector, place, x)
	}
}

// P8.2 to P8.7: every run of four acts out of those that a small rack can tell apart
func TestEveryShortRun(t *testing.T) {
	acts := []act{writeAct(0, 0, 1), writeAct(1, 0, 2), writeAct(2, 0, 3), writeAct(0, 1, 4), flushAct(0), flushAct(1), flushAct(-1),
		armAct(0), armAct(1), armAct(2), armAct(-1), bootAct(), bootAct(1), bootAct(0, 1, 1), dieAct(0), dieAct(2),
		replaceAct(0), replaceAct(1), rotAct(0, 0, 0, 0xff00ff00), rotAct(2, 0, 0, 1)}
	runs := 1
	for range 4 {
		runs *= len(acts)
	}
	for run := range runs {
		r, m := made(t, 2, 1), modelOf(2, 1)
		for rest, step := run, 0; step < 4; rest, step = rest/len(acts), step+1 {
			if !acts[rest%len(acts)](r, m) {
				t.Fatalf("run %d, step %d: another answer", run, step)
			}
		}
		if !m.like(t, "a short run", r) || !bootAct(1)(r, m) || !m.like(t, "a short run, booted", r) {
			t.Fatalf("run %d", run)
		}
	}
}

// next goes on to the next number of a fixed row that looks like none.
func next(seed *uint64) int {
	*seed = *seed*6364136223846793005 + 1442695040888963407
	return int(*seed >> 32)
}

// someAct tells an act that the row picks, with disks and sectors that now and then aren't there.
func someAct(seed *uint64, n, sectors int) act {
	i, sector := next(seed)%(n+1), next(seed)%(sectors+1)
	if next(seed)%40 == 0 {
		i, sector = -1-i, sector-1
	}
	switch kind := next(seed) % 100; {
	case kind < 50:
		return writeAct(i, sector, next(seed)%256)
	case kind < 65:
		return flushAct(i)
	case kind < 75:
		return rotAct(i, sector, next(seed)%130, uint32(next(seed)))
	case kind < 80:
		return armAct(next(seed)%12 - 2)
	case kind < 90:
		var bits []uint64
		for range next(seed) % (n + 2) {
			bits = append(bits, uint64(next(seed)))
		}
		return bootAct(bits...)
	case kind < 94:
		return dieAct(i)
	default:
		return replaceAct(i)
	}
}

// P8.2 to P8.7: long runs of all kinds, on racks of several sizes
func TestLongRuns(t *testing.T) {
	for _, size := range [][2]int{{1, 1}, {2, 3}, {3, 9}, {5, 2}, {api.MaxN, 70}} {
		n, sectors := size[0], size[1]
		r, m, seed := made(t, n, sectors), modelOf(n, sectors), uint64(n)
		for step := range 3000 {
			if !someAct(&seed, n, sectors)(r, m) || step%(1+n*sectors/20) == 0 && !m.like(t, "a long run", r) {
				t.Fatalf("%d disks, %d sectors, step %d", n, sectors, step)
			}
		}
	}
}

// R4: the same calls have the same answers, on every rack.
func TestTheSameAgain(t *testing.T) {
	answers := func() (all []byte) {
		r, m, seed := made(t, 4, 30), modelOf(4, 30), uint64(5)
		for step := range 600 {
			someAct(&seed, 4, 30)(r, m)
			b, err := r.Read(step%4, step%30)
			all = append(append(all, b...), byte(fault.Kind(err)), byte(len(r.Online())))
		}
		return all
	}
	want := answers()
	for range 5 {
		if !bytes.Equal(answers(), want) {
			t.Fatal("the same calls have other answers")
		}
	}
}

// The chapter's example run.
func TestRuns(t *testing.T) {
	r := made(t, 2, 3)
	r.Arm(2)
	written(t, r, 0, 0, 1)
	written(t, r, 1, 0, 2)
	refused(t, "the third one", r.Flush(0), at("rack.Flush", 0, api.ErrDown))
	isOff(t, "the third one", r, true)
	r.Boot(1)
	isOff(t, "booted", r, false)
	reads(t, "disk 0", r, 0, 0, block(1))
	reads(t, "disk 1", r, 1, 0, zeros())
}
