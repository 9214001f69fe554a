package super

import (
	"bytes"
	"errors"
	"math"
	"slices"
	"testing"

	"stave/api"
	"stave/fault"
	"stave/frame"
	"stave/rack"
)

// all is what Boot takes to let all that waits on a disk be stored.
const all = math.MaxUint64

// plain tells a configuration of which each field has a value of its own, and each byte of Id. It takes up 46 sectors.
func plain() api.Config { return api.Config{Id: 0x4A3C2E19, K: 2, N: 5, Stripes: 37, Slots: 4} }

// tiny tells a configuration for n disks that takes up few sectors.
func tiny(id, k, n int) api.Config { return api.Config{Id: id, K: k, N: n, Stripes: 1, Slots: 1} }

// summed tells a copy of b with its CRC-32C checksum behind it, which it computes bit by bit.
func summed(b []byte) []byte {
	sum := uint32(0xFFFFFFFF)
	for _, next := range b {
		sum ^= uint32(next)
		for range 8 {
			out := sum % 2
			sum /= 2
			sum ^= out * 0x82F63B78
		}
	}
	sum = ^sum
	return append(slices.Clone(b), byte(sum), byte(sum>>8), byte(sum>>16), byte(sum>>24))
}

// dataOf tells the Data of a superblock as P9.2 says it, each byte with a line of its own.
func dataOf(c api.Config) (data [api.Data]byte) {
	copy(data[:], []byte{
		byte(c.Id % 256),
		byte(c.Id / 256 % 256),
		byte(c.Id / 65536 % 256),
		byte(c.Id / 16777216 % 256),
		byte(c.K),
		byte(c.N),
		byte(c.Stripes),
		byte(c.Slots),
	})
	return data
}

// frameOf tells the superblock of disk i as P9.2 says it.
func frameOf(c api.Config, i int) api.Frame {
	return api.Frame{Kind: 1, Slot: i, Stripe: 0, Gen: 1, Data: dataOf(c)}
}

// bytesOf tells the bytes of a frame, as the chapter on frames says them.
func bytesOf(f api.Frame) []byte {
	s, g := f.Stripe, f.Gen
	head := []byte{
		0x53, 0x54, byte(f.Kind), byte(f.Slot),
		byte(s), byte(s >> 8), byte(s >> 16), byte(s >> 24),
		byte(g), byte(g >> 8), byte(g >> 16), byte(g >> 24), byte(g >> 32), byte(g >> 40), byte(g >> 48), byte(g >> 56),
	}
	return summed(append(head, f.Data[:]...))
}

// other tells bytes of a sector that are no frame.
func other(salt int) []byte {
	b := make([]byte, api.Sector)
	for i := range b {
		b[i] = byte(salt + i*i + 3*i)
	}
	return b
}

// made wants a rack of n disks of so many sectors.
func made(t *testing.T, n, sectors int) *rack.Rack {
	t.Helper()
	r, err := rack.New(n, sectors)
	if err != nil || r == nil {
		t.Fatalf("New(%d, %d) is %v, %#v", n, sectors, r, err)
	}
	return r
}

// done wants no error.
func done(t *testing.T, name string, err error) {
	t.Helper()
	if err != nil {
		t.Fatalf("%s: %#v", name, err)
	}
}

// put wants Put to store c on these disks.
func put(t *testing.T, r *rack.Rack, c api.Config, disks ...int) {
	t.Helper()
	for _, i := range disks {
		done(t, "Put", Put(r, c, i))
	}
}

// lay stores b at a sector of disk i.
func lay(t *testing.T, r *rack.Rack, i, at int, b []byte) {
	t.Helper()
	done(t, "Write", r.Write(i, at, b))
	done(t, "Flush", r.Flush(i))
}

// gets wants Get to tell c.
func gets(t *testing.T, name string, r *rack.Rack, i int, c api.Config) {
	t.Helper()
	if got, ok := Get(r, i); !ok || got != c {
		t.Errorf("%s: Get(%d) is %v, %v, want %v", name, i, got, ok, c)
	}
}

// getsNone wants Get to tell that there is none.
func getsNone(t *testing.T, name string, r *rack.Rack, i int) {
	t.Helper()
	if got, ok := Get(r, i); ok || got != (api.Config{}) {
		t.Errorf("%s: Get(%d) is %v, %v", name, i, got, ok)
	}
}

// finds wants Find to tell c.
func finds(t *testing.T, name string, r *rack.Rack, c api.Config) {
	t.Helper()
	if got, err := Find(r); err != nil || got != c {
		t.Errorf("%s: Find is %v, %#v, want %v", name, got, err, c)
	}
}

// findsNone wants Find to be refused with the number of disks that have the first disk's configuration.
func findsNone(t *testing.T, name string, r *rack.Rack, have int) {
	t.Helper()
	got, err := Find(r)
	if got != (api.Config{}) {
		t.Errorf("%s: Find is %v, %#v", name, got, err)
	}
	refused(t, name, err, at("super.Find", have, api.ErrUnavail))
}

// at tells one layer of an error.
func at(op string, n int, err error) error { return api.Fault{Op: op, At: n, Err: err} }

// same tells whether two errors are alike, layer by layer.
func same(err, want error) bool {
	var f, g api.Fault
	for errors.As(err, &f) && errors.As(want, &g) {
		if f.Op != g.Op || f.At != g.At {
			return false
		}
		err, want = f.Err, g.Err
	}
	return err == want
}

// refused wants this error, with all its layers, and its kind through all of them.
func refused(t *testing.T, name string, err, want error) {
	t.Helper()
	if !same(err, want) {
		t.Errorf("%s: refused with %#v, want %#v", name, err, want)
	}
	if kind := fault.Kind(want); kind == 0 || fault.Kind(err) != kind || !errors.Is(err, kind) {
		t.Errorf("%s: refused with %#v, which is no %d", name, err, kind)
	}
}

// none are numbers of which a row of so many has none.
func none(many int) []int {
	return []int{-1, many, many + 1, -2, -many, 8, 9, 256, -256, 1 << 32, 1<<32 + 1, -1 << 32, math.MaxInt, math.MinInt, math.MinInt + 1}
}

// sees tells what all sectors of a rack read as.
func sees(r *rack.Rack) (l [][]byte) {
	for i := range r.N() {
		for sector := range r.Sectors() {
			b, _ := r.Read(i, sector)
			l = append(l, b)
		}
	}
	return l
}

// unchanged wants all sectors to read as they did.
func unchanged(t *testing.T, name string, r *rack.Rack, was [][]byte) {
	t.Helper()
	if !slices.EqualFunc(sees(r), was, bytes.Equal) {
		t.Errorf("%s: the sectors have changed", name)
	}
}

// remain wants just n operations to remain, which it uses up on disk 0, which must be up.
func remain(t *testing.T, name string, r *rack.Rack, n int) {
	t.Helper()
	for range n {
		done(t, name+": an operation that remains", r.Flush(0))
	}
	if r.Off() {
		t.Errorf("%s: the power is off", name)
	}
	if err := r.Flush(0); fault.Kind(err) != api.ErrDown || !r.Off() {
		t.Errorf("%s: operations remain beyond %d: %#v", name, n, err)
	}
}

// field is one of a configuration's, with numbers that may stand in it if the others are those of middle, and numbers
// that may not. The first ones of each are the least and the greatest that may be and those beyond them.
type field struct {
	name  string
	of    func(c *api.Config) *int
	right []int
	wrong []int
}

// middle is valid, and so that K and N can be at their least and at their greatest.
func middle() api.Config { return api.Config{Id: 5, K: 3, N: 5, Stripes: 6, Slots: 2} }

func fields() []field {
	far := []int{-1, -2, -3, 1 << 8, 1<<8 + 1, 1<<8 + 3, 1 << 16, 1<<31 + 3, 1 << 32, 1<<32 + 1, 1<<32 + 3, -1 << 31, -1 << 32, 3 - 1<<8, math.MaxInt, math.MinInt}
	farId := []int{-1, -2, 1<<31 + 1, 1<<32 - 1, 1 << 32, 1<<32 + 1, 1<<40 + 5, -1 << 31, 1 - 1<<31, -1 << 32, 5 - 1<<32, math.MaxInt, math.MinInt, math.MinInt + 1}
	return []field{
		{"Id", func(c *api.Config) *int { return &c.Id }, []int{1, 1<<31 - 1, 2, 255, 256, 65536, 1 << 24, 1 << 30, 1<<31 - 2}, append(farId, 0, 1<<31)},
		{"K", func(c *api.Config) *int { return &c.K }, []int{1, 5, 2, 3, 4}, append(far, 0, 6, 7, 8, 9)},
		{"N", func(c *api.Config) *int { return &c.N }, []int{3, 8, 4, 5, 6, 7}, append(far, 2, 9, 0, 1, 10)},
		{"Stripes", func(c *api.Config) *int { return &c.Stripes }, []int{1, 64, 2, 32, 63}, append(far, 0, 65, 66, 128)},
		{"Slots", func(c *api.Config) *int { return &c.Slots }, []int{1, 4, 2, 3}, append(far, 0, 5, 6, 8)},
	}
}

// rights tells valid configurations: middle with each right number of each field.
func rights() (l []api.Config) {
	for _, f := range fields() {
		for _, n := range f.right {
			c := middle()
			*f.of(&c) = n
			l = append(l, c)
		}
	}
	return l
}

// wrongs tells configurations that are not valid: middle with each wrong number of each field, and with each wrong
// numbers of each two fields.
func wrongs() (l []api.Config) {
	fs := fields()
	for i, f := range fs {
		for _, n := range f.wrong {
			c := middle()
			*f.of(&c) = n
			l = append(l, c)
			for _, g := range fs[:i] {
				for _, m := range g.wrong {
					two := c
					*g.of(&two) = m
					l = append(l, two)
				}
			}
		}
	}
	return append(l, api.Config{})
}

// sectorsOf counts the sectors of a valid configuration one by one.
func sectorsOf(c api.Config) int {
	n := 1
	for range c.Slots {
		for range c.K {
			n++
		}
	}
	for range c.Stripes {
		n++
	}
	return n
}

// P9.1: each field at its least and at its greatest, and beyond; two wrong at a time
func TestRight(t *testing.T) {
	for _, c := range append(rights(), plain(), middle(), tiny(1, 1, 1), api.Config{Id: 1<<31 - 1, K: 8, N: 8, Stripes: 64, Slots: 4}) {
		if !Right(c) {
			t.Errorf("Right(%v) is false", c)
		}
	}
	for _, c := range wrongs() {
		if Right(c) {
			t.Errorf("Right(%v) is true", c)
		}
	}
}

// P9.1: every K with every N
func TestRightKAndN(t *testing.T) {
	for k := -2; k <= 18; k++ {
		for n := -2; n <= 18; n++ {
			c := middle()
			c.K, c.N = k, n
			want := k > 0 && n < 9 && n-k >= 0
			if Right(c) != want {
				t.Errorf("Right(%v) is %v", c, !want)
			}
		}
	}
}

// P9.1: a wrong field is noticed at the edges of the others too.
func TestRightAtTheEdges(t *testing.T) {
	least, greatest := tiny(1, 1, 1), api.Config{Id: 1<<31 - 1, K: 8, N: 8, Stripes: 64, Slots: 4}
	for _, f := range fields() {
		c := least
		*f.of(&c)--
		d := greatest
		*f.of(&d)++
		if Right(c) || Right(d) {
			t.Errorf("%s: %v, %v", f.name, Right(c), Right(d))
		}
	}
}

// P9.1: every valid configuration; Id and N have no part in it.
func TestSectors(t *testing.T) {
	for k := 1; k <= 8; k++ {
		for slots := 1; slots <= 4; slots++ {
			for stripes := 1; stripes <= 64; stripes++ {
				for n := k; n <= 8; n += 3 {
					c := api.Config{Id: k*1000 + n, K: k, N: n, Stripes: stripes, Slots: slots}
					if got := Sectors(c); got != sectorsOf(c) {
						t.Errorf("Sectors(%v) is %d, want %d", c, got, sectorsOf(c))
					}
				}
			}
		}
	}
}

// P9.1: the numbers that come out if they are written out; what the chapter says holds of configurations that are
// not valid too, and the greatest numbers do no harm.
func TestSectorsWrittenOut(t *testing.T) {
	for _, c := range []struct {
		k, slots, stripes, want int
	}{
		{1, 1, 1, 3}, {2, 4, 37, 46}, {8, 4, 64, 97}, {2, 2, 5, 10}, {3, 2, 6, 13}, {1, 4, 64, 69}, {8, 1, 1, 10},
		{0, 0, 0, 1}, {0, 7, 9, 10}, {7, 0, 9, 10}, {9, 5, 65, 111}, {-2, 3, 4, -1}, {2, -3, 7, 2}, {-2, -3, -4, 3}, {1000, 1000, 7, 1000008},
	} {
		if got := Sectors(api.Config{K: c.k, Slots: c.slots, Stripes: c.stripes}); got != c.want {
			t.Errorf("Sectors of K %d, Slots %d, Stripes %d is %d, want %d", c.k, c.slots, c.stripes, got, c.want)
		}
	}
	for _, c := range wrongs() {
		Sectors(c)
	}
}

// P9.1: sectors that are just the rack's, one more and one fewer, and N one fewer and one more than the rack's
func TestFits(t *testing.T) {
	for _, c := range append(rights(), plain(), tiny(1, 1, 1), tiny(1<<31-1, 8, 8)) {
		need := sectorsOf(c)
		for n := 1; n <= api.MaxN; n++ {
			for _, sectors := range []int{1, 2, need - 1, need, need + 1, api.MaxSectors} {
				want := n == c.N && sectors >= need
				if Fits(made(t, n, sectors), c) != want {
					t.Errorf("Fits of %v on %d disks with %d sectors is %v", c, n, sectors, !want)
				}
			}
		}
	}
}

// P9.1: every number of sectors of a rack against every number that a configuration needs
func TestFitsSectors(t *testing.T) {
	for sectors := 1; sectors <= api.MaxSectors; sectors++ {
		r := made(t, 4, sectors)
		for k := 1; k <= 4; k++ {
			for slots := 1; slots <= 4; slots++ {
				for stripes := 1; stripes <= 64; stripes += 7 {
					c := api.Config{Id: 3, K: k, N: 4, Stripes: stripes, Slots: slots}
					if want := sectorsOf(c) <= sectors; Fits(r, c) != want {
						t.Errorf("Fits of %v with %d sectors is %v", c, sectors, !want)
					}
				}
			}
		}
	}
}

// P9.1: what is not valid fits no rack, also one that has N disks and far more sectors.
func TestFitsIsRight(t *testing.T) {
	for n := 1; n <= api.MaxN; n++ {
		r := made(t, n, api.MaxSectors)
		for _, c := range wrongs() {
			if Fits(r, c) {
				t.Errorf("Fits of %v on %d disks is true", c, n)
			}
		}
	}
}

// P9.1: neither the power, dead disks nor an armed failure have anything to do with what fits.
func TestFitsWhateverRuns(t *testing.T) {
	r := made(t, 3, 4)
	right, wrong := tiny(1, 2, 3), tiny(1, 2, 2)
	check := func(name string) {
		t.Helper()
		if !Fits(r, right) || Fits(r, wrong) {
			t.Errorf("%s: %v, %v", name, Fits(r, right), Fits(r, wrong))
		}
	}
	check("new")
	r.Die(0)
	r.Die(1)
	r.Die(2)
	check("all dead")
	r.Replace(0)
	r.Arm(0)
	check("armed")
	remain(t, "Fits", r, 0)
	check("off")
}

// P9.2: the superblock's bytes, written out
func TestPutWrittenOut(t *testing.T) {
	r := made(t, 5, 46)
	put(t, r, plain(), 3)
	got, err := r.Read(3, 0)
	want := summed(slices.Concat(
		[]byte{0x53, 0x54},
		[]byte{1},                      // Kind
		[]byte{3},                      // Slot
		[]byte{0, 0, 0, 0},             // Stripe
		[]byte{1, 0, 0, 0, 0, 0, 0, 0}, // Gen
		[]byte{0x19, 0x2E, 0x3C, 0x4A}, // Id
		[]byte{2},                      // K
		[]byte{5},                      // N
		[]byte{37},                     // Stripes
		[]byte{4},                      // Slots
		make([]byte, 100),
	))
	if err != nil || len(want) != 128 || !bytes.Equal(got, want) {
		t.Errorf("sector 0 is % x, %#v, want % x", got, err, want)
	}
	f, ok := r.Get(3, 0, api.KSuper, 3, 0)
	if !ok || f.Kind != 1 || f.Slot != 3 || f.Stripe != 0 || f.Gen != 1 || !bytes.Equal(f.Data[:9], []byte{0x19, 0x2E, 0x3C, 0x4A, 2, 5, 37, 4, 0}) {
		t.Errorf("the frame is %v, %v", f, ok)
	}
}

// P9.2: sector 0 of disk i and nothing else, whichever disk it is, over whatever stood there; and it is flushed.
func TestPut(t *testing.T) {
	for _, c := range append(rights(), plain()) {
		r := made(t, c.N, sectorsOf(c))
		for i := range c.N {
			for sector := range r.Sectors() {
				lay(t, r, i, sector, other(i+sector))
			}
		}
		for i := range c.N {
			want := sees(r)
			want[i*r.Sectors()] = bytesOf(frameOf(c, i))
			put(t, r, c, i)
			unchanged(t, "Put", r, want)
			r.Boot()
			unchanged(t, "Put and booted", r, want)
		}
	}
}

// P9.2: a configuration takes the place of another one.
func TestPutOver(t *testing.T) {
	r := made(t, 3, 40)
	before := tiny(7, 2, 3)
	for _, c := range []api.Config{tiny(8, 2, 3), tiny(7, 1, 3), tiny(7, 3, 3), {Id: 7, K: 2, N: 3, Stripes: 2, Slots: 1}, {Id: 7, K: 2, N: 3, Stripes: 1, Slots: 2}, before} {
		put(t, r, before, 0, 1, 2)
		put(t, r, c, 1)
		r.Boot()
		gets(t, "changed", r, 1, c)
		gets(t, "not changed", r, 0, before)
		gets(t, "not changed", r, 2, before)
	}
}

// P9.2: all that waits on this disk is flushed, and nothing of what waits on another.
func TestPutFlushesItsDisk(t *testing.T) {
	for i := range 3 {
		r := made(t, 3, 5)
		for j := range 3 {
			for sector := range 5 {
				done(t, "Write", r.Write(j, sector, other(j+sector)))
			}
		}
		put(t, r, tiny(6, 2, 3), i)
		r.Boot()
		for j := range 3 {
			for sector := range 5 {
				want := make([]byte, api.Sector)
				if j == i {
					want = other(j + sector)
				}
				if j == i && sector == 0 {
					want = bytesOf(frameOf(tiny(6, 2, 3), i))
				}
				if b, err := r.Read(j, sector); err != nil || !bytes.Equal(b, want) {
					t.Errorf("Put on %d: disk %d, sector %d has % x, %#v", i, j, sector, b, err)
				}
			}
		}
	}
}

// P9.2: Put is two operations.
func TestPutOperations(t *testing.T) {
	for n := 2; n <= 5; n++ {
		r := made(t, 3, 4)
		r.Arm(n)
		put(t, r, tiny(6, 2, 3), 1)
		remain(t, "Put", r, n-2)
		r.Boot()
		gets(t, "booted", r, 1, tiny(6, 2, 3))
	}
}

// P9.2: the power fails at the write: there is nothing of it.
func TestPutFailsAtTheWrite(t *testing.T) {
	for i := range 3 {
		r := made(t, 3, 4)
		put(t, r, tiny(5, 2, 3), 0, 1, 2)
		was := sees(r)
		r.Arm(0)
		refused(t, "Put", Put(r, tiny(6, 2, 3), i), at("super.Put", i, at("rack.Write", i, api.ErrDown)))
		if !r.Off() {
			t.Error("the power is on")
		}
		refused(t, "again", Put(r, tiny(6, 2, 3), i), at("super.Put", i, at("rack.Write", i, api.ErrDown)))
		r.Boot(all, all, all)
		unchanged(t, "booted", r, was)
	}
}

// P9.2: the power fails at the flush: what was written waits, so it is there or not.
func TestPutFailsAtTheFlush(t *testing.T) {
	before, behind := tiny(5, 2, 3), tiny(6, 2, 3)
	for i := range 3 {
		for _, stored := range []bool{false, true} {
			r := made(t, 3, 4)
			put(t, r, before, 0, 1, 2)
			want := sees(r)
			r.Arm(1)
			refused(t, "Put", Put(r, behind, i), at("super.Put", i, at("rack.Flush", i, api.ErrDown)))
			if !r.Off() {
				t.Error("the power is on")
			}
			getsNone(t, "off", r, i)
			refused(t, "again", Put(r, behind, i), at("super.Put", i, at("rack.Write", i, api.ErrDown)))
			bits := []uint64{all, all, all}
			if stored {
				want[i*4] = bytesOf(frameOf(behind, i))
			} else {
				bits[i] = 0
			}
			r.Boot(bits...)
			unchanged(t, "booted", r, want)
		}
	}
}

// unfit tells configurations that don't fit a rack of 3 disks with 8 sectors: they are not valid, or of another N, or
// take up too many sectors.
func unfit() []api.Config {
	return append(wrongs(), tiny(1, 2, 4), tiny(1, 2, 2), tiny(1, 1, 1), tiny(1, 3, 8), middle(), plain(),
		api.Config{Id: 1, K: 2, N: 3, Stripes: 6, Slots: 1}, // one sector too many
		api.Config{Id: 1, K: 3, N: 3, Stripes: 2, Slots: 2},
		api.Config{Id: 1, K: 3, N: 3, Stripes: 64, Slots: 4},
		api.Config{Id: 1, K: 2, N: 4, Stripes: 64, Slots: 4}, // two reasons
		tiny(0, 2, 3), tiny(1<<31, 2, 3), tiny(1, 0, 3), tiny(1, 4, 3), api.Config{Id: 1, K: 2, N: 3, Stripes: 0, Slots: 1}, api.Config{Id: 1, K: 2, N: 3, Stripes: 1, Slots: 0})
}

// P9.2: a configuration that does not fit is refused on each disk, changes nothing and uses up no operation.
func TestPutUnfit(t *testing.T) {
	for operations := range 3 {
		r := made(t, 3, 8)
		put(t, r, tiny(5, 2, 3), 0, 1)
		for i := range 3 {
			lay(t, r, i, 3, other(i))
			done(t, "Write", r.Write(i, 4, other(9)))
		}
		was := sees(r)
		r.Arm(operations)
		for _, c := range unfit() {
			for i := range 3 {
				refused(t, "Put", Put(r, c, i), at("super.Put", i, api.ErrArg))
			}
		}
		unchanged(t, "Put", r, was)
		remain(t, "Put", r, operations)
		r.Boot()
		for i := range 3 {
			if operations == 0 || i > 0 {
				was[i*8+4] = make([]byte, api.Sector)
			}
		}
		unchanged(t, "booted", r, was)
	}
}

// P9.2: the configuration is refused ahead of the disk, the power and a failure that is armed.
func TestPutUnfitFirst(t *testing.T) {
	for _, c := range unfit() {
		r := made(t, 3, 8)
		r.Arm(0)
		for _, i := range none(3) {
			refused(t, "no disk", Put(r, c, i), at("super.Put", i, api.ErrArg))
		}
		r.Die(1)
		refused(t, "dead", Put(r, c, 1), at("super.Put", 1, api.ErrArg))
		remain(t, "Put", r, 0)
		for _, i := range append(none(3), 0, 1, 2) {
			refused(t, "off", Put(r, c, i), at("super.Put", i, api.ErrArg))
		}
	}
}

// P9.2: no disk i, also with the power off, or about to fail: that uses up no operation.
func TestPutNoDisk(t *testing.T) {
	for n := 1; n <= api.MaxN; n++ {
		c := tiny(n, 1, n)
		for operations := range 3 {
			r := made(t, n, 3)
			was := sees(r)
			r.Arm(operations)
			for _, i := range none(n) {
				if i < 0 || i >= n {
					refused(t, "no disk", Put(r, c, i), at("super.Put", i, at("rack.Write", i, api.ErrArg)))
				}
			}
			unchanged(t, "Put", r, was)
			remain(t, "Put", r, operations)
			for _, i := range none(n) {
				if i < 0 || i >= n {
					refused(t, "no disk, off", Put(r, c, i), at("super.Put", i, at("rack.Write", i, api.ErrArg)))
				}
			}
			r.Boot(all, all, all, all, all, all, all, all)
			unchanged(t, "booted", r, was)
		}
	}
}

// P9.2: a dead disk, which uses up no operation either; others go on.
func TestPutDead(t *testing.T) {
	c := tiny(6, 2, 3)
	for dead := 1; dead < 3; dead++ {
		r := made(t, 3, 4)
		put(t, r, c, dead)
		r.Die(dead)
		r.Arm(3)
		refused(t, "dead", Put(r, c, dead), at("super.Put", dead, at("rack.Write", dead, api.ErrDown)))
		put(t, r, c, 0)
		refused(t, "dead", Put(r, c, dead), at("super.Put", dead, at("rack.Write", dead, api.ErrDown)))
		remain(t, "Put", r, 1)
		refused(t, "dead and off", Put(r, c, dead), at("super.Put", dead, at("rack.Write", dead, api.ErrDown)))
		r.Boot(all, all, all)
		r.Replace(dead)
		getsNone(t, "replaced", r, dead)
		put(t, r, c, dead)
		gets(t, "replaced", r, dead, c)
	}
}

// P9.2, Ways: what package fault tells of an error with a layer more around it
func TestLayers(t *testing.T) {
	r := made(t, 3, 4)
	for _, c := range []struct {
		config api.Config
		disk   int
		arm    int
		path   []string
		kind   api.Errno
	}{
		{tiny(6, 2, 4), 1, -1, []string{"above", "super.Put"}, api.ErrArg},
		{tiny(6, 2, 3), 7, -1, []string{"above", "super.Put", "rack.Write"}, api.ErrArg},
		{tiny(6, 2, 3), 2, 0, []string{"above", "super.Put", "rack.Write"}, api.ErrDown},
		{tiny(6, 2, 3), 2, 1, []string{"above", "super.Put", "rack.Flush"}, api.ErrDown},
	} {
		r.Boot()
		r.Arm(c.arm)
		err := fault.Wrap("above", 99, Put(r, c.config, c.disk))
		op, where, ok := fault.Where(err)
		if path := fault.Path(err); !slices.Equal(path, c.path) || op != path[len(path)-1] || where != c.disk || !ok {
			t.Errorf("%v: %v, %s, %d, %v", c, path, op, where, ok)
		}
		if !errors.Is(err, c.kind) || fault.Kind(err) != c.kind || fault.First(err, api.ErrLost, c.kind) != 1 {
			t.Errorf("%v: %#v", c, err)
		}
	}
	r.Boot()
	_, err := Find(r)
	err = fault.Wrap("above", 99, err)
	if path := fault.Path(err); !slices.Equal(path, []string{"above", "super.Find"}) || !errors.Is(err, api.ErrUnavail) || fault.Kind(err) != api.ErrUnavail {
		t.Errorf("Find: %v, %#v", path, err)
	}
}

// P9.3: what Put writes, on each disk; the other disks have none.
func TestGet(t *testing.T) {
	for _, c := range append(rights(), plain(), tiny(1, 1, 1), tiny(1<<31-1, 8, 8)) {
		r := made(t, c.N, sectorsOf(c))
		for i := range c.N {
			getsNone(t, "ahead of Put", r, i)
			put(t, r, c, i)
			for j := range c.N {
				if j <= i {
					gets(t, "Put", r, j, c)
				} else {
					getsNone(t, "not yet Put", r, j)
				}
			}
		}
	}
}

// P9.3: each configuration that may be, also if it does not fit the rack that it stands on
func TestGetUnfit(t *testing.T) {
	r := made(t, 8, 1)
	for _, c := range append(rights(), plain(), tiny(1, 1, 1), tiny(3, 8, 8)) {
		for i := range 8 {
			lay(t, r, i, 0, bytesOf(frameOf(c, i)))
			gets(t, "laid", r, i, c)
		}
	}
}

// P9.3: no disk i
func TestGetNoDisk(t *testing.T) {
	for n := 1; n <= api.MaxN; n++ {
		r := made(t, n, 3)
		for i := range n {
			put(t, r, tiny(n, 1, n), i)
		}
		for _, i := range none(n) {
			if i < 0 || i >= n {
				getsNone(t, "no disk", r, i)
			}
		}
	}
}

// P9.3: frames of another kind, slot, stripe or generation
func TestGetOtherFrames(t *testing.T) {
	r := made(t, 8, 97)
	c := api.Config{Id: 9, K: 8, N: 8, Stripes: 64, Slots: 4}
	wants := func(f api.Frame, i int) {
		t.Helper()
		lay(t, r, i, 0, bytesOf(f))
		if got, ok := frame.Get(bytesOf(f)); !ok || got != f {
			t.Fatalf("no good frame: %v", f)
		}
		getsNone(t, "another frame", r, i)
		put(t, r, c, i)
		gets(t, "behind another frame", r, i, c)
	}
	for i := range 8 {
		for _, kind := range []int{api.KJournal, api.KStripe} {
			f := frameOf(c, i)
			f.Kind = kind
			wants(f, i)
		}
		for slot := range 8 {
			if slot != i {
				wants(frameOf(c, slot), i)
			}
		}
		for stripe := 1; stripe < 64; stripe++ {
			f := frameOf(c, i)
			f.Stripe = stripe
			wants(f, i)
		}
		for _, gen := range []int{0, 2, 3, 256, 257, 1 << 32, 1<<32 + 1, 1 << 59, api.MaxSeq - 1, api.MaxSeq} {
			f := frameOf(c, i)
			f.Gen = gen
			wants(f, i)
		}
	}
}

// P9.3: each byte of the configuration with each value; Get tells what then stands there, or that this may not be.
func TestGetEachByte(t *testing.T) {
	r := made(t, 5, 46)
	for _, from := range []api.Config{plain(), {Id: 0x100, K: 3, N: 5, Stripes: 1, Slots: 1}, {Id: 0x7F000000, K: 1, N: 1, Stripes: 64, Slots: 4}} {
		for place := range 8 {
			for value := range 256 {
				f := frameOf(from, 2)
				f.Data[place] = byte(value)
				d := f.Data
				c := api.Config{Id: int(d[0]) + 256*int(d[1]) + 65536*int(d[2]) + 16777216*int(d[3]), K: int(d[4]), N: int(d[5]), Stripes: int(d[6]), Slots: int(d[7])}
				may := c.Id > 0 && c.Id < 1<<31 && c.K > 0 && c.K <= c.N && c.N < 9 && c.Stripes > 0 && c.Stripes < 65 && c.Slots > 0 && c.Slots < 5
				lay(t, r, 2, 0, bytesOf(f))
				if may {
					gets(t, "may be", r, 2, c)
				} else {
					getsNone(t, "may not be", r, 2)
				}
			}
		}
	}
}

// P9.3: configurations that may not be, as Put would write them
func TestGetWrong(t *testing.T) {
	r := made(t, 5, 46)
	for _, c := range wrongs() {
		if c.Id < 0 || c.Id >= 1<<32 || max(c.K, c.N, c.Stripes, c.Slots) > 255 || min(c.K, c.N, c.Stripes, c.Slots) < 0 {
			continue // the bytes would say another one
		}
		lay(t, r, 4, 0, bytesOf(frameOf(c, 4)))
		getsNone(t, "may not be", r, 4)
	}
}

// P9.3: a byte behind the configuration's own that is not 0
func TestGetBytesBehind(t *testing.T) {
	r := made(t, 5, 46)
	for place := 8; place < api.Data; place++ {
		for _, value := range []byte{1, 2, 128, 255} {
			f := frameOf(plain(), 1)
			f.Data[place] = value
			lay(t, r, 1, 0, bytesOf(f))
			getsNone(t, "bytes behind", r, 1)
		}
	}
	f := frameOf(plain(), 1)
	f.Data[20], f.Data[90] = 1, 255
	lay(t, r, 1, 0, bytesOf(f))
	getsNone(t, "two bytes behind", r, 1)
}

// P9.3: a superblock counts on its own disk alone, and at sector 0 alone.
func TestGetOtherPlaces(t *testing.T) {
	for i := range 5 {
		for j := range 5 {
			r := made(t, 5, 46)
			lay(t, r, j, 0, bytesOf(frameOf(plain(), i)))
			if i == j {
				gets(t, "its own", r, j, plain())
			} else {
				getsNone(t, "another's", r, j)
				getsNone(t, "its own stands elsewhere", r, i)
			}
		}
		r := made(t, 5, 46)
		for sector := 1; sector < 46; sector++ {
			lay(t, r, i, sector, bytesOf(frameOf(plain(), i)))
		}
		getsNone(t, "at another sector", r, i)
	}
}

// P9.3: bytes that are no good frame: none at all, others, those of a superblock with a change
func TestGetRotten(t *testing.T) {
	r := made(t, 5, 46)
	getsNone(t, "bytes 0", r, 0)
	lay(t, r, 0, 0, other(7))
	getsNone(t, "other bytes", r, 0)
	lay(t, r, 0, 0, bytes.Repeat([]byte{255}, api.Sector))
	getsNone(t, "bytes 255", r, 0)
	for place := range api.Sector - 3 {
		for _, x := range []uint32{1, 0x80, 0x0100, 0x80000000, 0x01020304, 0xFFFFFFFF} {
			put(t, r, plain(), 2)
			gets(t, "sound", r, 2, plain())
			if !r.Rot(2, 0, place, x) {
				t.Fatalf("no rot at %d", place)
			}
			getsNone(t, "rotten", r, 2)
			if r.Rot(2, 0, place, x) {
				t.Fatalf("rot again at %d", place)
			}
		}
	}
	put(t, r, plain(), 2)
	r.Rot(2, 1, 0, 1)
	gets(t, "another sector rots", r, 2, plain())
}

// P9.3: dead disks and the power
func TestGetDeadAndOff(t *testing.T) {
	r := made(t, 5, 46)
	put(t, r, plain(), 0, 1, 2, 3, 4)
	r.Die(1)
	getsNone(t, "dead", r, 1)
	gets(t, "another one is dead", r, 2, plain())
	r.Arm(0)
	gets(t, "armed", r, 2, plain())
	r.Flush(2)
	for i := range 5 {
		getsNone(t, "off", r, i)
	}
	r.Boot()
	gets(t, "booted", r, 2, plain())
	getsNone(t, "dead, booted", r, 1)
	r.Replace(1)
	getsNone(t, "replaced", r, 1)
	r.Replace(2)
	getsNone(t, "replaced alive", r, 2)
}

// P9.3: a disk reads what waits ahead of what is stored; behind a crash, what came of it.
func TestGetWhatWaits(t *testing.T) {
	r := made(t, 3, 4)
	put(t, r, tiny(5, 2, 3), 1)
	done(t, "Write", r.Write(1, 0, bytesOf(frameOf(tiny(6, 1, 3), 1))))
	gets(t, "it waits", r, 1, tiny(6, 1, 3))
	r.Boot()
	gets(t, "it is lost", r, 1, tiny(5, 2, 3))
	done(t, "Write", r.Write(1, 0, make([]byte, api.Sector)))
	getsNone(t, "bytes 0 wait", r, 1)
	r.Boot(0, 1)
	getsNone(t, "bytes 0 are stored", r, 1)
}

// P9.4: with every number of disks and every K: fewer disks than K have the configuration, just K, more
func TestFindEnough(t *testing.T) {
	for n := 1; n <= api.MaxN; n++ {
		for k := 1; k <= n; k++ {
			c := tiny(100*n+k, k, n)
			up, down := made(t, n, sectorsOf(c)), made(t, n, sectorsOf(c))
			findsNone(t, "none", up, 0)
			for have := 1; have <= n; have++ {
				put(t, up, c, have-1)
				put(t, down, c, n-have)
				for _, r := range []*rack.Rack{up, down} {
					if have < k {
						findsNone(t, "too few", r, have)
					} else {
						finds(t, "enough", r, c)
					}
				}
			}
		}
	}
}

// P9.4: every set of the disks that have the configuration
func TestFindEachSet(t *testing.T) {
	for k := 1; k <= 5; k++ {
		for set := range 1 << 5 {
			r, have := made(t, 5, 12), 0
			c := tiny(set+1, k, 5)
			for i := range 5 {
				if set>>i%2 == 1 {
					put(t, r, c, i)
					have++
				}
			}
			if have < k {
				findsNone(t, "too few", r, have)
			} else {
				finds(t, "enough", r, c)
			}
		}
	}
}

// P9.4: the first disk's configuration counts, also if more others agree on another one.
func TestFindTheFirst(t *testing.T) {
	a, b := tiny(1, 2, 4), tiny(2, 2, 4)
	r := made(t, 4, 4)
	put(t, r, b, 1, 2, 3)
	finds(t, "the first has none", r, b)
	put(t, r, a, 0)
	findsNone(t, "the first has another one", r, 1)
	put(t, r, a, 2)
	finds(t, "two each", r, a)
	r.Die(0)
	finds(t, "the first is dead", r, b)
	r.Die(1)
	findsNone(t, "the first two are dead", r, 1)
	put(t, r, a, 3)
	finds(t, "agreed again", r, a)
	r.Replace(0)
	finds(t, "the first is a new one", r, a)
	put(t, r, b, 0)
	findsNone(t, "the first is of another volume", r, 1)
}

// P9.4: another volume's Id, or another number in any field, is not exactly this configuration, whichever disk has it.
func TestFindExactly(t *testing.T) {
	c := api.Config{Id: 0x01020304, K: 3, N: 4, Stripes: 6, Slots: 2}
	for _, odd := range []api.Config{
		{Id: 0x01020305, K: 3, N: 4, Stripes: 6, Slots: 2},
		{Id: 0x01020404, K: 3, N: 4, Stripes: 6, Slots: 2},
		{Id: 0x02020304, K: 3, N: 4, Stripes: 6, Slots: 2},
		{Id: 0x01020304, K: 2, N: 4, Stripes: 6, Slots: 2},
		{Id: 0x01020304, K: 4, N: 4, Stripes: 6, Slots: 2},
		{Id: 0x01020304, K: 3, N: 5, Stripes: 6, Slots: 2},
		{Id: 0x01020304, K: 3, N: 4, Stripes: 5, Slots: 2},
		{Id: 0x01020304, K: 3, N: 4, Stripes: 6, Slots: 1},
	} {
		for i := range 4 {
			r := made(t, 4, 20)
			put(t, r, c, 0, 1, 2, 3)
			lay(t, r, i, 0, bytesOf(frameOf(odd, i)))
			gets(t, "the odd one", r, i, odd)
			if i == 0 {
				findsNone(t, "the first is the odd one", r, 1)
			} else {
				finds(t, "three of four", r, c)
			}
			r.Die((i + 1) % 4)
			if i == 0 {
				findsNone(t, "the first is the odd one", r, 1)
			} else {
				findsNone(t, "two of four", r, 2)
			}
		}
	}
}

// P9.4: if K is 1, the first disk's configuration is found, though more others agree on another one.
func TestFindOneIsEnough(t *testing.T) {
	r := made(t, 3, 6)
	put(t, r, tiny(1, 2, 3), 1, 2)
	put(t, r, tiny(2, 1, 3), 0)
	finds(t, "K is 1", r, tiny(2, 1, 3))
}

// P9.4: the superblock of another place doesn't count, and hides no other disk's.
func TestFindOtherPlaces(t *testing.T) {
	c := tiny(7, 2, 3)
	for i := range 3 {
		r := made(t, 3, 4)
		put(t, r, c, 0, 1, 2)
		lay(t, r, i, 0, bytesOf(frameOf(c, (i+1)%3)))
		finds(t, "one is of another place", r, c)
		lay(t, r, (i+1)%3, 0, bytesOf(frameOf(tiny(8, 1, 3), i)))
		findsNone(t, "two are of another place", r, 1)
		lay(t, r, (i+2)%3, 0, bytesOf(frameOf(c, 5)))
		findsNone(t, "all are of another place", r, 0)
	}
}

// P9.4: a configuration of another N than the rack's, or of more sectors, though enough disks have it; the error tells
// how many.
func TestFindUnfit(t *testing.T) {
	for _, c := range []api.Config{
		tiny(1, 2, 3), tiny(1, 1, 3), tiny(1, 2, 5), tiny(1, 2, 8), tiny(1, 1, 1), tiny(1, 4, 5), tiny(1, 8, 8),
		{Id: 1, K: 2, N: 4, Stripes: 6, Slots: 1}, // one sector too many
		{Id: 1, K: 2, N: 4, Stripes: 64, Slots: 4},
		{Id: 1, K: 3, N: 4, Stripes: 2, Slots: 2},
		{Id: 1, K: 3, N: 3, Stripes: 64, Slots: 4}, // both
	} {
		for begin := range 4 {
			r := made(t, 4, 8)
			for have := 1; have <= 4-begin; have++ {
				i := begin + have - 1
				lay(t, r, i, 0, bytesOf(frameOf(c, i)))
				gets(t, "unfit", r, i, c)
				findsNone(t, "unfit", r, have)
			}
			if begin > 0 {
				put(t, r, tiny(2, 1, 4), 0)
				finds(t, "the first one fits", r, tiny(2, 1, 4))
			}
		}
	}
	r := made(t, 4, 8)
	just := api.Config{Id: 1, K: 2, N: 4, Stripes: 5, Slots: 1}
	put(t, r, just, 2, 3)
	finds(t, "just the rack's sectors", r, just)
	lay(t, r, 0, 0, bytesOf(frameOf(tiny(1, 1, 3), 0)))
	findsNone(t, "the first does not fit", r, 1)
}

// P9.4: dead disks, rotten superblocks and the power
func TestFindFailures(t *testing.T) {
	c := tiny(9, 3, 5)
	r := made(t, 5, 5)
	put(t, r, c, 0, 1, 2, 3, 4)
	r.Die(0)
	finds(t, "one is dead", r, c)
	r.Rot(3, 0, 60, 1)
	finds(t, "one is dead, one rots", r, c)
	r.Arm(0)
	finds(t, "armed", r, c)
	r.Flush(1)
	findsNone(t, "off", r, 0)
	r.Boot()
	finds(t, "booted", r, c)
	r.Replace(4)
	findsNone(t, "one is dead, one rots, one is new", r, 2)
	put(t, r, c, 4)
	finds(t, "filled again", r, c)
	for i := range 5 {
		r.Die(i)
	}
	findsNone(t, "all dead", r, 0)
}

// P9.3, P9.4: Get and Find use up no operation and change nothing, with whatever on the disks.
func TestReadingIsNoOperation(t *testing.T) {
	for operations := range 4 {
		for _, c := range []api.Config{tiny(1, 2, 3), tiny(1, 3, 3), tiny(1, 1, 2)} {
			r := made(t, 3, 4)
			lay(t, r, 0, 0, bytesOf(frameOf(c, 0)))
			lay(t, r, 1, 0, bytesOf(frameOf(c, 1)))
			done(t, "Write", r.Write(2, 1, other(3)))
			was := sees(r)
			r.Arm(operations)
			for range 5 {
				Find(r)
				for i := -1; i <= 3; i++ {
					Get(r, i)
				}
				Fits(r, c)
			}
			unchanged(t, "Get and Find", r, was)
			remain(t, "Get and Find", r, operations)
			r.Boot()
			was[2*4+1] = make([]byte, api.Sector)
			unchanged(t, "booted", r, was)
		}
	}
}

// P9.3, P9.4: with no failure armed none comes.
func TestReadingArmsNothing(t *testing.T) {
	r := made(t, 3, 4)
	for range 50 {
		put(t, r, tiny(1, 2, 3), 0, 1)
		finds(t, "not armed", r, tiny(1, 2, 3))
	}
}

// the chapter's example run
func TestExampleRun(t *testing.T) {
	c := api.Config{Id: 1, K: 2, N: 3, Stripes: 2, Slots: 1}
	r := made(t, 3, Sectors(c))
	put(t, r, c, 1, 2)
	finds(t, "put on 1 and 2", r, c)
	r.Die(2)
	findsNone(t, "2 dies", r, 1)
}

// R4, R8: two racks have nothing to do with each other.
func TestTwoRacks(t *testing.T) {
	a, b := made(t, 3, 6), made(t, 2, 9)
	for i := range 2 {
		put(t, a, tiny(1+i, 1, 3), 0, 1, 2)
		findsNone(t, "the other one is new", made(t, 3, 6), 0)
		put(t, b, tiny(7-i, 2, 2), 0, 1)
		finds(t, "the one", a, tiny(1+i, 1, 3))
		finds(t, "the other one", b, tiny(7-i, 2, 2))
	}
	b.Die(0)
	finds(t, "the one", a, tiny(2, 1, 3))
	findsNone(t, "the other one", b, 1)
}

// modelDisk is what a disk has as its superblock: the zero Config stands for none.
type modelDisk struct {
	dead            bool
	stored, waiting api.Config
	waits           bool
}

// model is a rack as the chapters say it, as far as its superblocks go. Of remaining, -1: no power failure is armed.
type model struct {
	disks     []modelDisk
	fitting   []api.Config
	off       bool
	remaining int
}

// operation tells whether the next operation on disk i has an effect.
func (m *model) operation(i int) bool {
	if m.off || m.disks[i].dead {
		return false
	}
	if m.remaining == 0 {
		m.off = true
		return false
	}
	if m.remaining > 0 {
		m.remaining--
	}
	return true
}

func (m *model) put(c api.Config, i int) error {
	switch {
	case !slices.Contains(m.fitting, c):
		return at("super.Put", i, api.ErrArg)
	case i < 0 || i >= len(m.disks):
		return at("super.Put", i, at("rack.Write", i, api.ErrArg))
	case !m.operation(i):
		return at("super.Put", i, at("rack.Write", i, api.ErrDown))
	}
	d := &m.disks[i]
	d.waiting, d.waits = c, true
	if !m.operation(i) {
		return at("super.Put", i, at("rack.Flush", i, api.ErrDown))
	}
	*d = modelDisk{stored: c}
	return nil
}

func (m *model) boot(bits []uint64) {
	for i := range m.disks {
		d := &m.disks[i]
		if d.waits && i < len(bits) && bits[i]%2 == 1 {
			d.stored = d.waiting
		}
		d.waits = false
	}
	m.off, m.remaining = false, -1
}

func (m *model) get(i int) api.Config {
	if m.off || i < 0 || i >= len(m.disks) || m.disks[i].dead {
		return api.Config{}
	}
	if d := m.disks[i]; !d.waits {
		return d.stored
	} else {
		return d.waiting
	}
}

func (m *model) find() (api.Config, error) {
	var has []api.Config
	for i := range m.disks {
		if c := m.get(i); c != (api.Config{}) {
			has = append(has, c)
		}
	}
	if len(has) == 0 {
		return api.Config{}, at("super.Find", 0, api.ErrUnavail)
	}
	have := len(slices.DeleteFunc(slices.Clone(has), func(c api.Config) bool { return c != has[0] }))
	if have >= has[0].K && slices.Contains(m.fitting, has[0]) {
		return has[0], nil
	}
	return api.Config{}, at("super.Find", have, api.ErrUnavail)
}

// like wants Get and Find to tell what the model has.
func (m *model) like(t *testing.T, name string, r *rack.Rack) bool {
	t.Helper()
	good := r.Off() == m.off
	for i := -1; i <= len(m.disks); i++ {
		c, ok := Get(r, i)
		good = good && c == m.get(i) && ok == (c != api.Config{})
	}
	c, err := Find(r)
	want, wantErr := m.find()
	if !good || c != want || !same(err, wantErr) {
		t.Errorf("%s: not as the chapter has it; Find is %v, %#v, want %v, %#v", name, c, err, want, wantErr)
		return false
	}
	return true
}

// P9.4: every way in which four disks have one of several things at sector 0
func TestFindEverySetting(t *testing.T) {
	a, b, unfit := tiny(1, 2, 4), tiny(1, 3, 4), tiny(1, 1, 3)
	const things = 6
	for setting := range things * things * things * things {
		r := made(t, 4, 8)
		m := &model{disks: make([]modelDisk, 4), fitting: []api.Config{a, b}, remaining: -1}
		rest := setting
		for i := range 4 {
			switch rest % things {
			case 0, 1, 2:
				c := []api.Config{a, b, unfit}[rest%things]
				lay(t, r, i, 0, bytesOf(frameOf(c, i)))
				m.disks[i].stored = c
			case 3:
				lay(t, r, i, 0, bytesOf(frameOf(a, (i+1)%4)))
			case 4:
				put(t, r, a, i)
				r.Die(i)
			}
			rest /= things
		}
		if !m.like(t, "a setting", r) {
			t.Fatalf("setting %d", setting)
		}
	}
}

// act does one of several things to a rack and to its model.
func act(t *testing.T, r *rack.Rack, m *model, what int) {
	t.Helper()
	a, b := tiny(1, 2, 2), tiny(2, 1, 2)
	try := func(c api.Config, i int) {
		if err, want := Put(r, c, i), m.put(c, i); !same(err, want) {
			t.Errorf("Put(%v, %d) is %#v, want %#v", c, i, err, want)
		}
	}
	switch what {
	case 0:
		try(a, 0)
	case 1:
		try(a, 1)
	case 2:
		try(b, 0)
	case 3:
		try(tiny(1, 2, 3), 0)
	case 4:
		try(b, 2)
	case 5:
		r.Boot()
		m.boot(nil)
	case 6:
		r.Boot(all, all)
		m.boot([]uint64{all, all})
	case 7:
		r.Die(0)
		m.disks[0] = modelDisk{dead: true}
	case 8:
		r.Replace(0)
		m.disks[0] = modelDisk{}
	case 9:
		r.Rot(1, 0, 30, 5)
		m.disks[1].stored = api.Config{}
	default:
		r.Arm(what - 10)
		m.remaining = what - 10
	}
}

// acts is how many things there are for act to do.
const acts = 14

func small(t *testing.T) (*rack.Rack, *model) {
	t.Helper()
	fitting := []api.Config{tiny(1, 2, 2), tiny(2, 1, 2)}
	return made(t, 2, 5), &model{disks: make([]modelDisk, 2), fitting: fitting, remaining: -1}
}

// P9.2 to P9.4: every run of four acts
func TestEveryRun(t *testing.T) {
	for run := range acts * acts * acts * acts {
		r, m := small(t)
		rest := run
		for range 4 {
			act(t, r, m, rest%acts)
			rest /= acts
		}
		if !m.like(t, "a run", r) {
			t.Fatalf("run %d", run)
		}
	}
}

// P9.2 to P9.4: long runs
func TestLongRuns(t *testing.T) {
	for seed := range 40 {
		r, m := small(t)
		state := uint32(seed)
		for step := range 400 {
			state = state*1664525 + 1013904223
			act(t, r, m, int(state>>16)%acts)
			if !m.like(t, "a long run", r) {
				t.Fatalf("seed %d, step %d", seed, step)
			}
		}
	}
}
