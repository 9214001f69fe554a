package stripe

import (
	"bytes"
	"errors"
	"math"
	"slices"
	"testing"

	"stave/api"
	"stave/code"
	"stave/fault"
	"stave/rack"
)

// all is what Boot takes to let all that waits on a disk be stored.
const all = math.MaxUint64

// plain tells a configuration of which each field has a value of its own. Its stripes are at sectors 7 to 10, and it
// takes up 11.
func plain() api.Config { return api.Config{Id: 77, K: 3, N: 5, Stripes: 4, Slots: 2} }

// config tells one for n disks with k blocks a stripe.
func config(k, n, stripes, slots int) api.Config {
	return api.Config{Id: 9, K: k, N: n, Stripes: stripes, Slots: slots}
}

// configs tells one for each k with each number of disks, with one slot and with more, with one stripe and with more.
func configs() (l []api.Config) {
	for n := 1; n <= api.MaxN; n++ {
		for k := 1; k <= n; k++ {
			l = append(l, config(k, n, 2+(k+n)%4, 1), config(k, n, 1+(k+n)%2, 2+(k+n)%3))
		}
	}
	return l
}

// blocks tells k blocks with bytes of all kinds; the salt makes others of them.
func blocks(k, salt int) []api.Block {
	l := make([]api.Block, k)
	for i := range l {
		for at := range l[i] {
			l[i][at] = byte(at*at*salt + 31*at + 101*salt + 57*i + at/7)
		}
	}
	return l
}

// product tells that of two elements of the field, bit by bit.
func product(x, y byte) byte {
	sum, a := 0, int(x)
	for b := int(y); b > 0; b /= 2 {
		if b%2 == 1 {
			sum ^= a
		}
		if a *= 2; a > 255 {
			a ^= 0x11d
		}
	}
	return byte(sum)
}

// inverses tells the inverse of each element of the field, which it looks for.
func inverses() (inv [256]byte) {
	for x := range 256 {
		for y := range 256 {
			if product(byte(x), byte(y)) == 1 {
				inv[x] = byte(y)
			}
		}
	}
	return inv
}

// inverse and products are tables of what product tells, since it is asked often.
var inverse, products = inverses(), allProducts()

func allProducts() (p [256][256]byte) {
	for x := range 256 {
		for y := range 256 {
			p[x][y] = product(byte(x), byte(y))
		}
	}
	return p
}

// fragmentOf tells fragment d of the blocks, as the chapter on the code says it.
func fragmentOf(l []api.Block, d int) [api.Data]byte {
	if d < len(l) {
		return l[d]
	}
	var sum [api.Data]byte
	for j, b := range l {
		for at := range sum {
			sum[at] ^= products[inverse[d^j]][b[at]]
		}
	}
	return sum
}

// put is a stripe in one generation.
type put struct {
	s, gen int
	blocks []api.Block
}

// version tells a stripe of k blocks; another generation or stripe has other blocks.
func version(k, s, gen int) put {
	l := blocks(k, gen%1000+7*s)
	for i := range l {
		l[i][50] = byte(s)
		for at := range 8 {
			l[i][51+at] = byte(gen >> (8 * at))
		}
	}
	return put{s, gen, l}
}

// frame tells the one that disk d has of it, as P11.1 says it.
func (p put) frame(d int) api.Frame {
	return api.Frame{Kind: 3, Slot: d, Stripe: p.s, Gen: p.gen, Data: fragmentOf(p.blocks, d)}
}

// to stores it with Put.
func (p put) to(r *rack.Rack, c api.Config) error { return Put(r, c, p.s, p.gen, p.blocks) }

// place tells the sector of stripe s, counted from the first one behind the superblock.
func place(c api.Config, s int) int {
	sector := 1
	for range c.Slots {
		sector += c.K
	}
	return sector + s
}

// summed tells a copy of b with its CRC-32C checksum behind it, which it computes bit by bit.
func summed(b []byte) []byte {
	sum := uint32(0xFFFFFFFF)
	for _, next := range b {
		sum ^= uint32(next)
		for range 8 {
			out := sum % 2
			sum /= 2
			sum ^= out * 0x82F63B78
		}
	}
	sum = ^sum
	return append(slices.Clone(b), byte(sum), byte(sum>>8), byte(sum>>16), byte(sum>>24))
}

// bytesOf tells the bytes of a frame, as the chapter on frames says them.
func bytesOf(f api.Frame) []byte {
	s, g := f.Stripe, f.Gen
	head := []byte{
		0x53, 0x54, byte(f.Kind), byte(f.Slot),
		byte(s), byte(s >> 8), byte(s >> 16), byte(s >> 24),
		byte(g), byte(g >> 8), byte(g >> 16), byte(g >> 24), byte(g >> 32), byte(g >> 40), byte(g >> 48), byte(g >> 56),
	}
	return summed(append(head, f.Data[:]...))
}

// other tells bytes of a sector that are no frame.
func other(salt int) []byte {
	b := make([]byte, api.Sector)
	for i := range b {
		b[i] = byte(salt + i*i + 3*i)
	}
	return b
}

// made wants a rack for a configuration, with sectors beyond those that it takes up.
func made(t *testing.T, c api.Config, more int) *rack.Rack {
	t.Helper()
	r, err := rack.New(c.N, 1+c.Slots*c.K+c.Stripes+more)
	if err != nil {
		t.Fatalf("New for %v is %#v", c, err)
	}
	return r
}

// with wants a rack that has these stripes.
func with(t *testing.T, c api.Config, l ...put) *rack.Rack {
	t.Helper()
	r := made(t, c, 0)
	for _, p := range l {
		done(t, "Put", p.to(r, c))
	}
	return r
}

// full wants a rack with other bytes at all sectors.
func full(t *testing.T, c api.Config, more int) *rack.Rack {
	t.Helper()
	r := made(t, c, more)
	for d := range c.N {
		for sector := range r.Sectors() {
			done(t, "Write", r.Write(d, sector, other(7*d+sector)))
		}
		done(t, "Flush", r.Flush(d))
	}
	return r
}

// done wants no error.
func done(t *testing.T, name string, err error) {
	t.Helper()
	if err != nil {
		t.Fatalf("%s: %#v", name, err)
	}
}

// lay stores bytes where stripe s stands on these disks.
func lay(t *testing.T, r *rack.Rack, c api.Config, s int, b []byte, disks ...int) {
	t.Helper()
	for _, d := range disks {
		done(t, "Write", r.Write(d, place(c, s), b))
		done(t, "Flush", r.Flush(d))
	}
}

// layFrames stores the frames of p on these disks.
func layFrames(t *testing.T, r *rack.Rack, c api.Config, p put, disks ...int) {
	t.Helper()
	for _, d := range disks {
		lay(t, r, c, p.s, bytesOf(p.frame(d)), d)
	}
}

// wipe stores bytes 0 where stripe s stands on these disks.
func wipe(t *testing.T, r *rack.Rack, c api.Config, s int, disks ...int) {
	t.Helper()
	lay(t, r, c, s, make([]byte, api.Sector), disks...)
}

// below tells the disks below n.
func below(n int) []int { return []int{0, 1, 2, 3, 4, 5, 6, 7}[:n] }

// without tells the disks below n but for some.
func without(n int, some ...int) (l []int) {
	for d := range n {
		if !slices.Contains(some, d) {
			l = append(l, d)
		}
	}
	return l
}

// looks wants Look to tell a generation, and a Part of each of these disks; nothing if there are none.
func looks(t *testing.T, name string, r *rack.Rack, c api.Config, want put, disks ...int) {
	t.Helper()
	if len(disks) == 0 {
		looksNone(t, name, r, c, want.s)
		return
	}
	gen, parts := Look(r, c, want.s)
	if gen != want.gen || len(parts) != len(disks) {
		t.Errorf("%s: Look(%d) is %d, %d parts, want %d, %d", name, want.s, gen, len(parts), want.gen, len(disks))
		return
	}
	for i, d := range disks {
		data := fragmentOf(want.blocks, d)
		if parts[i].At != d || !bytes.Equal(parts[i].Data, data[:]) {
			t.Errorf("%s: part %d of Look(%d) is %d, % x, want %d, % x", name, i, want.s, parts[i].At, parts[i].Data, d, data)
		}
	}
}

// looksNone wants Look to tell that there is nothing.
func looksNone(t *testing.T, name string, r *rack.Rack, c api.Config, s int) {
	t.Helper()
	if gen, parts := Look(r, c, s); gen != 0 || parts != nil {
		t.Errorf("%s: Look(%d) is %d, %v", name, s, gen, parts)
	}
}

// gets wants Get to tell a stripe.
func gets(t *testing.T, name string, r *rack.Rack, c api.Config, want put) {
	t.Helper()
	l, gen, err := Get(r, c, want.s)
	if !slices.Equal(l, want.blocks) || gen != want.gen || err != nil {
		t.Errorf("%s: Get(%d) is %d blocks, %d, %#v, want %d, generation %d",
			name, want.s, len(l), gen, err, len(want.blocks), want.gen)
	}
}

// getRefused wants Get to be refused with one layer around an error.
func getRefused(t *testing.T, name string, r *rack.Rack, c api.Config, s int, want error) {
	t.Helper()
	l, gen, err := Get(r, c, s)
	if l != nil || gen != 0 {
		t.Errorf("%s: Get(%d) is %d blocks, %d, %#v", name, s, len(l), gen, err)
	}
	refused(t, name, err, at("stripe.Get", s, want))
}

// loses wants Get to tell that a stripe is lost, in a Loss that errors.As finds.
func loses(t *testing.T, name string, r *rack.Rack, c api.Config, s, have int) {
	t.Helper()
	want := api.Loss{Group: s, Have: have, Need: c.K}
	getRefused(t, name, r, c, s, want)
	_, _, err := Get(r, c, s)
	var loss api.Loss
	if !errors.As(err, &loss) || loss != want || !errors.Is(err, api.ErrLost) || fault.Kind(err) != api.ErrLost {
		t.Errorf("%s: Get(%d) has the error %#v, want %v", name, s, err, want)
	}
	if got, lost := fault.Lost(err); !lost || got != want {
		t.Errorf("%s: Get(%d) has the Loss %v, %v, want %v", name, s, got, lost, want)
	}
}

// stands wants Look and Get to tell that just these disks have frames of the newest generation, be they enough or not.
func stands(t *testing.T, name string, r *rack.Rack, c api.Config, newest put, disks ...int) {
	t.Helper()
	looks(t, name, r, c, newest, disks...)
	if len(disks) < c.K {
		loses(t, name, r, c, newest.s, len(disks))
	} else {
		gets(t, name, r, c, newest)
	}
}

// at tells one layer of an error.
func at(op string, n int, err error) error { return api.Fault{Op: op, At: n, Err: err} }

// same tells whether two errors are alike, layer by layer.
func same(err, want error) bool {
	var f, g api.Fault
	for errors.As(err, &f) && errors.As(want, &g) {
		if f.Op != g.Op || f.At != g.At {
			return false
		}
		err, want = f.Err, g.Err
	}
	return err == want
}

// refused wants this error, with all its layers, and its kind through all of them.
func refused(t *testing.T, name string, err, want error) {
	t.Helper()
	if !same(err, want) {
		t.Errorf("%s: refused with %#v, want %#v", name, err, want)
	}
	if kind := fault.Kind(want); kind == 0 || fault.Kind(err) != kind || !errors.Is(err, kind) {
		t.Errorf("%s: refused with %#v, which is no %d", name, err, kind)
	}
}

// sees tells what all sectors of each disk read as; those of a dead one as nothing.
func sees(r *rack.Rack) (l [][][]byte) {
	for d := range r.N() {
		var disk [][]byte
		for sector := range r.Sectors() {
			b, _ := r.Read(d, sector)
			disk = append(disk, b)
		}
		l = append(l, disk)
	}
	return l
}

// reads wants all sectors to read so.
func reads(t *testing.T, name string, r *rack.Rack, want [][][]byte) {
	t.Helper()
	for d, disk := range sees(r) {
		for sector, b := range disk {
			if !bytes.Equal(b, want[d][sector]) {
				t.Fatalf("%s: sector %d of disk %d is % x, want % x", name, sector, d, b, want[d][sector])
			}
		}
	}
}

// remain wants just n operations to remain, which it uses up on disk d, which must be up.
func remain(t *testing.T, name string, r *rack.Rack, d, n int) {
	t.Helper()
	for range n {
		done(t, name+": an operation that remains", r.Flush(d))
	}
	if r.Off() {
		t.Errorf("%s: the power is off", name)
	}
	if err := r.Flush(d); fault.Kind(err) != api.ErrDown || !r.Off() {
		t.Errorf("%s: operations remain beyond %d: %#v", name, n, err)
	}
}

// off puts the power off by an operation on disk d, which must be up.
func off(t *testing.T, r *rack.Rack, d int) {
	t.Helper()
	r.Arm(0)
	remain(t, "off", r, d, 0)
}

// operation is a write of b at a sector of a disk, or a flush of the disk.
type operation struct {
	disk, sector int
	b            []byte
	flush        bool
}

// error tells the one that the operation has if the power is off.
func (o operation) error() error {
	if o.flush {
		return at("rack.Flush", o.disk, api.ErrDown)
	}
	return at("rack.Write", o.disk, api.ErrDown)
}

// operations tells those of a Put in order, if these disks are online.
func (p put) operations(c api.Config, online []int) (l []operation) {
	for _, d := range online {
		l = append(l, operation{disk: d, sector: place(c, p.s), b: bytesOf(p.frame(d))})
	}
	for _, d := range online {
		l = append(l, operation{disk: d, flush: true})
	}
	return l
}

// puts tells some: the first stripe and the last one, in the least generation, in the greatest one and in others.
func puts(c api.Config) (l []put) {
	for _, gen := range []int{1, 2, 0x0102030405060708, 1<<60 - 1, 1 << 60} {
		l = append(l, version(c.K, 0, gen), version(c.K, c.Stripes-1, gen))
	}
	return l
}

// P11.1: the frames of a stripe, written out, with fragments that are known: those of 1 and 2 in two blocks
func TestPutWrittenOut(t *testing.T) {
	c := config(2, 3, 50, 3)
	l := make([]api.Block, 2)
	l[0][0], l[1][0] = 1, 2
	l[1][107] = 3
	r := full(t, c, 1)
	want := sees(r)
	done(t, "Put", Put(r, c, 49, 0x0102030405060708, l))
	for d, data := range [][2]byte{
		{1, 0},
		{2, 3},
		// The inverse of 2 is 0x8e and that of 3 is 0xf4: 0x8e + 2 * 0xf4, and 3 * 0xf4.
		{0x8e ^ 0xf5, 1},
	} {
		b := append([]byte{
			0x53, 0x54,
			3,           // Kind
			byte(d),     // Slot
			49, 0, 0, 0, // Stripe
			8, 7, 6, 5, 4, 3, 2, 1, // Gen
			data[0],
		}, make([]byte, 106)...)
		// The superblock, three slots of two sectors, 49 stripes
		want[d][1+6+49] = summed(append(b, data[1]))
	}
	reads(t, "Put", r, want)
	r.Boot()
	reads(t, "Put and booted", r, want)
	f, ok := r.Get(1, 56, api.KStripe, 1, 49)
	if !ok || f != (api.Frame{Kind: 3, Slot: 1, Stripe: 49, Gen: 0x0102030405060708, Data: l[1]}) {
		t.Errorf("the frame is %v, %v", f, ok)
	}
}

// P11.1: the sectors of each stripe, written out
func TestPlaces(t *testing.T) {
	for _, p := range []struct {
		c      api.Config
		places []int
	}{
		{config(1, 1, 1, 1), []int{2}},
		{config(1, 2, 3, 1), []int{2, 3, 4}},
		{config(1, 2, 2, 4), []int{5, 6}},
		{config(2, 3, 4, 1), []int{3, 4, 5, 6}},
		{config(2, 4, 3, 2), []int{5, 6, 7}},
		{config(3, 3, 2, 4), []int{13, 14}},
		{config(5, 8, 3, 3), []int{16, 17, 18}},
		{config(8, 8, 1, 1), []int{9}},
		{config(8, 8, 2, 4), []int{33, 34}},
	} {
		for s, sector := range p.places {
			x := version(p.c.K, s, 3+s)
			r := full(t, p.c, 2)
			want := sees(r)
			done(t, "Put", x.to(r, p.c))
			for d := range p.c.N {
				want[d][sector] = bytesOf(x.frame(d))
			}
			reads(t, "Put", r, want)
		}
		if len(p.places) != p.c.Stripes {
			t.Errorf("not all places of %v", p.c)
		}
	}
	c := config(8, 8, 64, 4)
	x := version(8, 63, 2)
	r := with(t, c, x)
	if f, ok := r.Get(7, 96, api.KStripe, 7, 63); !ok || f != x.frame(7) {
		t.Errorf("the last sector has %v, %v", f, ok)
	}
}

// P11.1: the Data of disk d is fragment d of code.New(K, N).
func TestFragments(t *testing.T) {
	for _, c := range configs() {
		erasure, err := code.New(c.K, c.N)
		done(t, "code.New", err)
		for _, x := range puts(c)[:4] {
			var l [][]byte
			for _, b := range x.blocks {
				l = append(l, b[:])
			}
			fragments, err := erasure.Encode(l)
			done(t, "Encode", err)
			r := with(t, c, x)
			for d := range c.N {
				f, ok := r.Get(d, place(c, x.s), api.KStripe, d, x.s)
				if !ok || f.Gen != x.gen || !bytes.Equal(f.Data[:], fragments[d]) {
					t.Errorf("%v: disk %d has %v, %v", c, d, f, ok)
				}
			}
		}
	}
}

// P11.1, P11.2: each disk has its frame, flushed, and no other sector has changed, for each K and each number of disks
func TestPut(t *testing.T) {
	for _, c := range configs() {
		r := full(t, c, 1)
		want := sees(r)
		for _, x := range puts(c) {
			done(t, "Put", x.to(r, c))
			r.Boot()
			for d := range c.N {
				want[d][place(c, x.s)] = bytesOf(x.frame(d))
			}
			reads(t, "Put", r, want)
			stands(t, "Put", r, c, x, below(c.N)...)
		}
	}
}

// P11.2: every set of dead disks; what is not online is left out, and is no error, however few are left.
func TestPutOnline(t *testing.T) {
	for _, c := range []api.Config{plain(), config(1, 2, 2, 1), config(4, 4, 1, 2), config(2, 6, 2, 1)} {
		for set := range 1 << c.N {
			x := version(c.K, set%c.Stripes, 1+set)
			r := full(t, c, 0)
			var online []int
			for d := range c.N {
				if set>>d%2 == 1 {
					r.Die(d)
				} else {
					online = append(online, d)
				}
			}
			want := sees(r)
			done(t, "Put", x.to(r, c))
			for _, d := range online {
				want[d][place(c, x.s)] = bytesOf(x.frame(d))
			}
			reads(t, "Put", r, want)
			r.Boot()
			reads(t, "Put and booted", r, want)
			for d := range c.N {
				if set>>d%2 == 1 {
					r.Replace(d)
					want[d] = sees(made(t, c, 0))[d]
				}
			}
			reads(t, "Put and replaced", r, want)
		}
	}
}

// P11.2: a disk that is replaced is online and has its frame of the next Put.
func TestPutReplaced(t *testing.T) {
	c := plain()
	for _, x := range puts(c) {
		r := with(t, c, version(3, x.s, 1))
		r.Die(1)
		r.Replace(1)
		r.Replace(2)
		done(t, "Put", x.to(r, c))
		r.Boot()
		stands(t, "Put", r, c, x, below(5)...)
	}
}

// P11.2: all that waits on a disk that is online is flushed.
func TestPutFlushes(t *testing.T) {
	c := plain()
	for _, x := range puts(c) {
		r := made(t, c, 3)
		for d := range c.N {
			for sector := range r.Sectors() {
				done(t, "Write", r.Write(d, sector, other(d+sector)))
			}
		}
		r.Die(2)
		done(t, "Put", x.to(r, c))
		want := sees(r)
		if !bytes.Equal(want[3][0], other(3)) || !bytes.Equal(want[0][13], other(13)) {
			t.Fatal("what waited is not read")
		}
		r.Boot()
		reads(t, "Put", r, want)
	}
}

// deaths tells sets of disks that are dead.
func deaths(n int) [][]int {
	l := [][]int{nil, {0}, {n - 1}}
	if n > 2 {
		l = append(l, []int{1}, []int{0, n - 1})
	}
	return l
}

// P11.2: the order of the operations, the error at each of them, and what it leaves, by a power failure at each
func TestOrder(t *testing.T) {
	for _, c := range []api.Config{plain(), config(1, 1, 1, 1), config(1, 3, 2, 2), config(2, 2, 2, 3), config(2, 5, 3, 1), config(8, 8, 1, 2)} {
		for _, x := range puts(c) {
			for _, dead := range deaths(c.N) {
				ordered(t, c, x, dead)
			}
		}
	}
}

// ordered wants the operations of a Put to be just those of its promise, in their order: behind each one fewer the
// power fails, and then what has been written and what has been flushed shows which went ahead.
func ordered(t *testing.T, c api.Config, x put, dead []int) {
	t.Helper()
	l := x.operations(c, without(c.N, dead...))
	for n := range len(l) + 2 {
		for _, keeps := range []bool{true, false} {
			r := full(t, c, 0)
			for _, d := range dead {
				r.Die(d)
			}
			stored, waiting := sees(r), sees(r)
			for _, o := range l[:min(n, len(l))] {
				if o.flush {
					stored[o.disk] = waiting[o.disk]
				} else {
					waiting[o.disk][o.sector] = o.b
				}
			}
			r.Arm(n)
			err := x.to(r, c)
			if n < len(l) {
				refused(t, "Put", err, at("stripe.Put", x.s, l[n].error()))
			} else {
				done(t, "Put", err)
			}
			if r.Off() != (n < len(l)) {
				t.Errorf("Put: the power is off: %v", r.Off())
			}
			if keeps {
				r.Boot(all, all, all, all, all, all, all, all)
				reads(t, "Put, all kept", r, waiting)
			} else {
				r.Boot()
				reads(t, "Put, none kept", r, stored)
			}
		}
	}
}

// P11.2: the layers of an error of the rack, and its operation and place
func TestPutErrorLayers(t *testing.T) {
	c := plain()
	for n, want := range []struct {
		op string
		at int
	}{
		{"rack.Write", 0}, {"rack.Write", 2}, {"rack.Write", 3}, {"rack.Write", 4},
		{"rack.Flush", 0}, {"rack.Flush", 2}, {"rack.Flush", 3}, {"rack.Flush", 4},
	} {
		r := made(t, c, 0)
		r.Die(1)
		r.Arm(n)
		err := version(3, 2, 8).to(r, c)
		if path := fault.Path(err); !slices.Equal(path, []string{"stripe.Put", want.op}) {
			t.Errorf("operation %d: %q", n, path)
		}
		if op, place, ok := fault.Where(err); op != want.op || place != want.at || !ok {
			t.Errorf("operation %d: %s, %d, %v", n, op, place, ok)
		}
		var outer api.Fault
		if !errors.As(err, &outer) || outer.Op != "stripe.Put" || outer.At != 2 || fault.Kind(err) != api.ErrDown {
			t.Errorf("operation %d: %#v", n, err)
		}
	}
}

// P11.2: a Put uses up as many operations as it has, and no more.
func TestOperationsUsedUp(t *testing.T) {
	for _, c := range configs() {
		for more := range 3 {
			r := made(t, c, 0)
			r.Arm(2*c.N + more)
			done(t, "Put", version(c.K, c.Stripes-1, 9).to(r, c))
			remain(t, "Put", r, 0, more)
		}
	}
}

// P11.2: the power is off from the start.
func TestPutOff(t *testing.T) {
	c := plain()
	for _, x := range puts(c) {
		for first := range c.N {
			r := full(t, c, 0)
			for d := range first {
				r.Die(d)
			}
			want := sees(r)
			off(t, r, first)
			refused(t, "Put", x.to(r, c), at("stripe.Put", x.s, at("rack.Write", first, api.ErrDown)))
			refused(t, "Put again", x.to(r, c), at("stripe.Put", x.s, at("rack.Write", first, api.ErrDown)))
			r.Boot(all, all, all, all, all)
			reads(t, "Put", r, want)
			done(t, "Put and booted", x.to(r, c))
		}
	}
}

// P11.2: no disk is online: there is nothing to write, and no operation that could fail.
func TestPutNowhere(t *testing.T) {
	c := plain()
	for _, x := range puts(c) {
		r := full(t, c, 0)
		r.Arm(1)
		for d := range c.N {
			r.Die(d)
		}
		done(t, "Put", x.to(r, c))
		r.Replace(0)
		r.Replace(1)
		looksNone(t, "replaced", r, c, x.s)
		remain(t, "Put", r, 1, 1)
		r.Die(0)
		r.Die(1)
		done(t, "Put with the power off", x.to(r, c))
	}
}

// wrongPuts tells stripes that can't be put with the configuration plain, for one reason or for several.
func wrongPuts() (l []put) {
	gens := []int{0, 1<<60 + 1, -1, -2, 1<<60 + 2, 1 << 61, 1 << 62, math.MaxInt, math.MinInt, math.MinInt + 1, -1 << 60}
	for _, gen := range gens {
		l = append(l, put{0, gen, blocks(3, 1)}, put{3, gen, blocks(3, 1)}, put{-1, gen, blocks(3, 1)}, put{4, gen, blocks(3, 1)},
			put{1, gen, blocks(2, 1)}, put{1, gen, blocks(4, 1)}, put{1, gen, nil}, put{4, gen, blocks(4, 1)})
	}
	for _, s := range wrongStripes(4) {
		for _, gen := range []int{1, 2, 1 << 60} {
			l = append(l, put{s, gen, blocks(3, 1)}, put{s, gen, blocks(2, 1)}, put{s, gen, blocks(4, 1)}, put{s, gen, nil})
		}
	}
	for _, many := range []int{2, 4, 0, 1, 5, 6, 8, 9, 100} {
		l = append(l, put{0, 1, blocks(many, 1)}, put{3, 1 << 60, blocks(many, 1)}, put{2, 7, blocks(many, 1)})
	}
	return append(l, put{0, 1, nil}, put{0, 1, []api.Block{}}, put{-1, 0, nil})
}

// wrongStripes tells numbers that are no stripe of a configuration with so many.
func wrongStripes(stripes int) []int {
	return []int{-1, stripes, stripes + 1, -2, -stripes, 64, 128, 256, -256, 1 << 32, 1<<32 + 1, -1 << 32, math.MaxInt, math.MinInt, math.MinInt + 1}
}

// unfit tells configurations that don't fit a rack of five disks with 11 sectors.
func unfit() (l []api.Config) {
	for _, change := range []func(c *api.Config){
		func(c *api.Config) { c.N = 4 },
		func(c *api.Config) { c.N = 6 },
		func(c *api.Config) { c.Stripes = 5 },
		func(c *api.Config) { c.Slots = 3 },
		func(c *api.Config) { c.K = 4 },
		func(c *api.Config) { c.Id = 0 },
		func(c *api.Config) { c.Id = 1 << 31 },
		func(c *api.Config) { c.K = 0 },
		func(c *api.Config) { c.K = -1 },
		func(c *api.Config) { c.K, c.Slots, c.Stripes = 6, 1, 1 },
		func(c *api.Config) { c.N = 0 },
		func(c *api.Config) { c.N = 9 },
		func(c *api.Config) { c.Stripes = 0 },
		func(c *api.Config) { c.Stripes = -1 },
		func(c *api.Config) { c.Stripes = 65 },
		func(c *api.Config) { c.Slots = 0 },
		func(c *api.Config) { c.Slots = -1 },
		func(c *api.Config) { c.K, c.Slots = 1, 5 },
		func(c *api.Config) { c.Slots, c.Stripes = math.MaxInt, math.MaxInt },
		func(c *api.Config) { c.Slots, c.K = math.MinInt, math.MinInt },
		func(c *api.Config) { *c = api.Config{} },
	} {
		c := plain()
		change(&c)
		l = append(l, c)
	}
	return l
}

// harmless wants a Put to be refused, to change nothing and to use up no operation, and to be refused in the same way
// with the power off and with no disk online.
func harmless(t *testing.T, c api.Config, x put) {
	t.Helper()
	want := at("stripe.Put", x.s, api.ErrArg)
	r := full(t, plain(), 0)
	done(t, "Write", r.Write(3, 2, other(99)))
	was := sees(r)
	for n := range 3 {
		r.Arm(n)
		refused(t, "Put", x.to(r, c), want)
		reads(t, "Put", r, was)
		remain(t, "Put", r, 0, n)
		refused(t, "Put with the power off", x.to(r, c), want)
		r.Boot(0, 0, 0, all)
		reads(t, "Put with the power off", r, was)
	}
	for d := range r.N() {
		r.Die(d)
	}
	refused(t, "Put with no disk online", x.to(r, c), want)
}

// P11.2: generations, stripes and blocks beyond their edges, one, two and all of them
func TestPutRefused(t *testing.T) {
	for _, x := range wrongPuts() {
		harmless(t, plain(), x)
	}
}

// P11.2: configurations that don't fit, with nothing else wrong and with more
func TestPutUnfit(t *testing.T) {
	for _, c := range unfit() {
		own := min(max(c.K, 0), 9)
		for _, x := range []put{version(own, 0, 1), version(3, 0, 1), version(own, max(c.Stripes, 1)-1, 1<<60), version(own, 0, 0), version(own, -1, 1), {}, {s: -1, gen: -4}} {
			harmless(t, c, x)
		}
	}
}

// P11.2: what is refused leaves the stripe as it was.
func TestPutRefusedOver(t *testing.T) {
	c := plain()
	for _, x := range wrongPuts() {
		var l []put
		for s := range c.Stripes {
			l = append(l, version(3, s, 5+s))
		}
		r := with(t, c, l...)
		refused(t, "Put", x.to(r, c), at("stripe.Put", x.s, api.ErrArg))
		for s := range c.Stripes {
			stands(t, "refused", r, c, l[s], below(5)...)
		}
	}
}

// P11.2, P11.4: generations and stripes at their edges
func TestAtTheEdges(t *testing.T) {
	for _, c := range configs() {
		r := made(t, c, 0)
		for _, gen := range []int{1, 2, 255, 256, 1<<31 - 1, 1 << 31, 1 << 32, 1<<60 - 1, 1 << 60} {
			for _, s := range []int{0, c.Stripes - 1} {
				x := version(c.K, s, gen)
				done(t, "Put", x.to(r, c))
				stands(t, "Put", r, c, x, below(c.N)...)
			}
			for _, s := range []int{-1, c.Stripes} {
				refused(t, "Put", version(c.K, s, gen).to(r, c), at("stripe.Put", s, api.ErrArg))
			}
		}
		for _, gen := range []int{0, 1<<60 + 1} {
			refused(t, "Put", version(c.K, 0, gen).to(r, c), at("stripe.Put", 0, api.ErrArg))
		}
		for _, many := range []int{c.K - 1, c.K + 1, 0} {
			refused(t, "Put", put{0, 1, blocks(many, 2)}.to(r, c), at("stripe.Put", 0, api.ErrArg))
		}
		stands(t, "refused", r, c, version(c.K, 0, 1<<60), below(c.N)...)
		stands(t, "refused", r, c, version(c.K, c.Stripes-1, 1<<60), below(c.N)...)
	}
	c := config(1, 2, 64, 4)
	r := with(t, c, version(1, 63, 4))
	stands(t, "the greatest stripe", r, c, version(1, 63, 4), 0, 1)
	getRefused(t, "beyond it", r, c, 64, api.ErrArg)
	looksNone(t, "beyond it", r, c, 64)
}

// P11.3, P11.4: stripes that are none, and configurations that don't fit, one of them or both, with all stripes there
func TestLookAndGetRefused(t *testing.T) {
	c := plain()
	r := made(t, c, 0)
	for s := range c.Stripes {
		done(t, "Put", version(3, s, 5).to(r, c))
	}
	nothing := func(name string, c api.Config, s int) {
		t.Helper()
		looksNone(t, name, r, c, s)
		getRefused(t, name, r, c, s, api.ErrArg)
	}
	everyWrong := func(name string) {
		t.Helper()
		for _, s := range wrongStripes(4) {
			nothing(name, c, s)
		}
		for _, bad := range unfit() {
			for _, s := range append(wrongStripes(4), 0, 1, 2, 3) {
				nothing(name, bad, s)
			}
		}
	}
	everyWrong("all is there")
	// ErrArg comes ahead of ErrUnavail, whichever reason that has, and ahead of a Loss.
	off(t, r, 2)
	everyWrong("off")
	r.Boot()
	for d := range 5 {
		r.Die(d)
	}
	everyWrong("dead")
	for d := range 5 {
		r.Replace(d)
	}
	everyWrong("new")
}

// P11.2 to P11.4: a configuration that does not fit by its number of stripes alone, which has places for the stripes
func TestFewerStripes(t *testing.T) {
	c := plain()
	r := with(t, c, version(3, 3, 7))
	c.Stripes = 3
	looksNone(t, "fewer stripes", r, c, 3)
	getRefused(t, "fewer stripes", r, c, 3, api.ErrArg)
	refused(t, "fewer stripes", version(3, 3, 8).to(r, c), at("stripe.Put", 3, api.ErrArg))
	stands(t, "all stripes", r, plain(), version(3, 3, 7), below(5)...)
}

// P11.3, P11.4: a stripe that was never written
func TestNeverWritten(t *testing.T) {
	for _, c := range configs() {
		r := made(t, c, 1)
		for s := range c.Stripes {
			looksNone(t, "new", r, c, s)
			loses(t, "new", r, c, s, 0)
		}
		for s := range c.Stripes {
			x := version(c.K, s, 1)
			done(t, "Put", x.to(r, c))
			stands(t, "Put", r, c, x, below(c.N)...)
			if s+1 < c.Stripes {
				looksNone(t, "not yet", r, c, s+1)
				loses(t, "not yet", r, c, s+1, 0)
			}
		}
		for s := range c.Stripes {
			stands(t, "all", r, c, version(c.K, s, 1), below(c.N)...)
		}
	}
}

// notGood tells frames that are not good for stripe 2 on disk d, though frame.Get accepts them.
func notGood(d int) (l []api.Frame) {
	for _, gen := range []int{9, 1 << 60, 5} {
		for _, change := range []func(f *api.Frame){
			func(f *api.Frame) { f.Kind = api.KJournal },
			func(f *api.Frame) { f.Kind = api.KSuper },
			func(f *api.Frame) { f.Slot = (d + 1) % 5 },
			func(f *api.Frame) { f.Slot = (d + 4) % 5 },
			func(f *api.Frame) { f.Slot = 7 },
			func(f *api.Frame) { f.Stripe = 0 },
			func(f *api.Frame) { f.Stripe = 1 },
			func(f *api.Frame) { f.Stripe = 3 },
			func(f *api.Frame) { f.Stripe = 63 },
			func(f *api.Frame) { f.Gen = 0 },
			func(f *api.Frame) { f.Gen, f.Stripe = 0, 1 },
		} {
			f := version(3, 2, gen).frame(d)
			change(&f)
			l = append(l, f)
		}
	}
	return l
}

// P11.3: frames that are not good, and good ones with Gen 0, count for nothing, on whichever disk they stand: neither
// as the newest nor as a Part.
func TestNotGood(t *testing.T) {
	c := plain()
	x := version(3, 2, 5)
	for i := range notGood(0) {
		for d := range c.N {
			r := with(t, c, x)
			lay(t, r, c, 2, bytesOf(notGood(d)[i]), d)
			stands(t, "one is not good", r, c, x, without(5, d)...)
			for e := range c.N {
				lay(t, r, c, 2, bytesOf(notGood(e)[i]), e)
			}
			looksNone(t, "none is good", r, c, 2)
			loses(t, "none is good", r, c, 2, 0)
			layFrames(t, r, c, x, d)
			stands(t, "one is good", r, c, x, d)
			layFrames(t, r, c, x, without(5, d)...)
			stands(t, "all are good", r, c, x, below(5)...)
		}
	}
}

// P11.1, P11.3: the frames of a stripe at another place, on another disk or at another stripe's sector, are not good.
func TestElsewhere(t *testing.T) {
	c := plain()
	x := version(3, 2, 5)
	for d := range c.N {
		for e := range c.N {
			for s := range c.Stripes {
				r := made(t, c, 0)
				lay(t, r, c, s, bytesOf(x.frame(d)), e)
				for look := range c.Stripes {
					if look == 2 && s == 2 && d == e {
						stands(t, "here", r, c, x, d)
						continue
					}
					looksNone(t, "elsewhere", r, c, look)
					loses(t, "elsewhere", r, c, look, 0)
				}
			}
		}
	}
}

// P11.3: every Gen from 1 on may be told, however far from others it is.
func TestAnyGeneration(t *testing.T) {
	c := config(2, 3, 2, 1)
	gens := []int{1, 2, 3, 127, 128, 255, 256, 1<<31 - 1, 1 << 31, 1 << 32, 1<<32 + 1, 1<<53 + 1, 1<<60 - 1, 1 << 60}
	for i, older := range gens {
		for _, newer := range gens[i+1:] {
			x := version(2, 1, newer)
			for _, order := range [][]int{{0, 1, 2}, {1, 2, 0}, {2, 0, 1}} {
				r := with(t, c, version(2, 1, older))
				for n, d := range order {
					layFrames(t, r, c, x, d)
					has := slices.Sorted(slices.Values(order[:n+1]))
					stands(t, "the newer one", r, c, x, has...)
				}
			}
		}
	}
}

// P11.3, P11.4, P11.5: the newer of two generations is on each set of disks: on fewer than K it is a Loss, though the
// older one is on K and more; on K and more it is told.
func TestTwoGenerations(t *testing.T) {
	for _, c := range []api.Config{plain(), config(1, 1, 1, 1), config(1, 4, 2, 2), config(2, 3, 2, 1), config(2, 6, 2, 2), config(4, 4, 1, 1), config(5, 7, 1, 1)} {
		for set := 1; set < 1<<c.N; set++ {
			s := set % c.Stripes
			newer := version(c.K, s, 9)
			var has []int
			r := with(t, c, version(c.K, s, 8))
			for d := range c.N {
				if set>>d%2 == 1 {
					has = append(has, d)
					layFrames(t, r, c, newer, d)
				}
			}
			stands(t, "the newer one", r, c, newer, has...)
		}
	}
}

// P11.5: a stripe whose newest generation is gone on some of the disks that had it, never tells the older one as long
// as one frame is left.
func TestNewestGoes(t *testing.T) {
	c := plain()
	for d := range c.N {
		newer := version(3, 1, 7)
		r := with(t, c, version(3, 1, 4))
		has := []int{d, (d + 1) % 5, (d + 3) % 5}
		layFrames(t, r, c, newer, has...)
		for len(has) > 0 {
			slices.Sort(has)
			stands(t, "some are left", r, c, newer, has...)
			wipe(t, r, c, 1, has[0])
			has = has[1:]
		}
		left := without(5, d, (d+1)%5, (d+3)%5)
		stands(t, "none is left", r, c, version(3, 1, 4), left...)
	}
}

// failures are what may happen to a disk.
var failures = []func(r *rack.Rack, d, sector, at int){
	func(r *rack.Rack, d, sector, at int) { r.Die(d) },
	func(r *rack.Rack, d, sector, at int) { r.Replace(d) },
	func(r *rack.Rack, d, sector, at int) { r.Rot(d, sector, at%125, 1<<(at%32)) },
}

// failed wants a rack that has a stripe over an older one, where the disks of a set have failed, each in its own way.
func failed(t *testing.T, c api.Config, x put, set int, way func(i int) int) *rack.Rack {
	t.Helper()
	r := with(t, c, version(c.K, x.s, x.gen-1), x)
	i := 0
	for d := range c.N {
		if set>>d%2 == 1 {
			failures[way(i)](r, d, place(c, x.s), 13*set+31*d)
			i++
		}
	}
	return r
}

// disksOf tells the disks of a set.
func disksOf(set int) (l []int) {
	for d := range api.MaxN {
		if set>>d%2 == 1 {
			l = append(l, d)
		}
	}
	return l
}

// P11.5: each choice of at most N - K disks that are dead, new or rotten, in each mixture, for few disks
func TestEveryFailure(t *testing.T) {
	for _, c := range []api.Config{plain(), config(1, 2, 2, 1), config(2, 3, 1, 3), config(2, 4, 2, 1), config(1, 4, 2, 2), config(3, 3, 2, 1)} {
		for set := range 1 << c.N {
			bad := disksOf(set)
			if len(bad) > c.N-c.K {
				continue
			}
			mixtures := 1
			for range bad {
				mixtures *= len(failures)
			}
			for mixture := range mixtures {
				rest := mixture
				x := version(c.K, set%c.Stripes, 2+mixture)
				r := failed(t, c, x, set, func(int) int {
					way := rest % len(failures)
					rest /= len(failures)
					return way
				})
				stands(t, "some have failed", r, c, x, without(c.N, bad...)...)
				r.Boot()
				stands(t, "some have failed, booted", r, c, x, without(c.N, bad...)...)
			}
		}
	}
}

// P11.5: each choice of N - K disks that have failed, and of one more, for each K and each number of disks
func TestEveryChoice(t *testing.T) {
	for n := 1; n <= api.MaxN; n++ {
		for set := range 1 << n {
			bad := disksOf(set)
			good := without(n, bad...)
			if len(good) == 0 {
				continue
			}
			for way := range 4 {
				mixed := func(i int) int { return (i + way) % 3 }
				if way < 3 {
					mixed = func(int) int { return way }
				}
				c := config(len(good), n, 1+set%3, 1)
				x := version(c.K, set%c.Stripes, 2+set)
				stands(t, "K are left", failed(t, c, x, set, mixed), c, x, good...)
				// Its K is one more than what is left.
				if c.K++; c.K > n {
					continue
				}
				x = version(c.K, x.s, x.gen)
				r := failed(t, c, x, set, mixed)
				looks(t, "K - 1 are left", r, c, x, good...)
				if len(r.Online()) < c.K {
					getRefused(t, "K - 1 are left", r, c, x.s, api.ErrUnavail)
				} else {
					loses(t, "K - 1 are left", r, c, x.s, c.K-1)
				}
			}
		}
	}
}

// P11.4: as many disks online as are needed, one fewer, none, and the power off
func TestUnavailable(t *testing.T) {
	for _, c := range configs() {
		for first := range c.N {
			x := version(c.K, 0, 6)
			r := with(t, c, x)
			for i := range c.N + 1 {
				if up := r.Online(); len(up) >= c.K {
					stands(t, "enough", r, c, x, up...)
				} else {
					looks(t, "too few", r, c, x, up...)
					for s := range c.Stripes {
						getRefused(t, "too few", r, c, s, api.ErrUnavail)
					}
				}
				r.Die((first + i) % c.N)
			}
		}
		r := with(t, c, version(c.K, 0, 6))
		off(t, r, 0)
		for s := range c.Stripes {
			looksNone(t, "off", r, c, s)
			getRefused(t, "off", r, c, s, api.ErrUnavail)
		}
		r.Boot()
		stands(t, "booted", r, c, version(c.K, 0, 6), below(c.N)...)
	}
}

// P11.4: ErrUnavail comes ahead of a Loss; a disk that is online and has nothing counts as online, but is no Part.
func TestUnavailableFirst(t *testing.T) {
	c := plain()
	x := version(3, 1, 6)
	r := with(t, c, x)
	loses(t, "never written", r, c, 0, 0)
	r.Die(0)
	r.Die(1)
	loses(t, "never written, three are online", r, c, 0, 0)
	r.Rot(2, place(c, 1), 3, 4)
	loses(t, "three are online, one rots", r, c, 1, 2)
	r.Die(2)
	getRefused(t, "two are online, and never written", r, c, 0, api.ErrUnavail)
	getRefused(t, "two are online", r, c, 1, api.ErrUnavail)
	r.Replace(0)
	loses(t, "three are online, one is new", r, c, 1, 2)
	loses(t, "three are online, one is new, never written", r, c, 0, 0)
	off(t, r, 3)
	getRefused(t, "off", r, c, 0, api.ErrUnavail)
	getRefused(t, "off", r, c, 1, api.ErrUnavail)
}

// P11.3, P11.4: Look and Get use up no operation and change nothing, with whatever on the disks.
func TestNoOperations(t *testing.T) {
	c := plain()
	for n := range 4 {
		r := with(t, c, version(3, 0, 3), version(3, 1, 4), version(3, 3, 5))
		layFrames(t, r, c, version(3, 1, 8), 2)
		wipe(t, r, c, 3, 0, 2, 3, 4)
		done(t, "Write", r.Write(3, 2, other(1)))
		r.Die(1)
		was := sees(r)
		r.Arm(n)
		for range 5 {
			for s := -1; s <= 4; s++ {
				Look(r, c, s)
				Get(r, c, s)
			}
		}
		reads(t, "Look and Get", r, was)
		remain(t, "Look and Get", r, 0, n)
		r.Boot()
		was[3][2] = make([]byte, api.Sector)
		reads(t, "Look and Get, booted", r, was)
	}
}

// P11.3, P11.4, R2: what Look and Get tell is the caller's own: new memory each time, up to the end of its capacity, of
// which no two parts share any.
func TestResultsAreNew(t *testing.T) {
	spoilParts := func(l []api.Part) {
		l = l[:cap(l)]
		for i := range l {
			data := l[i].Data[:cap(l[i].Data)]
			for at := range data {
				data[at] ^= 255
			}
			l[i] = api.Part{At: 99}
		}
	}
	spoilBlocks := func(l []api.Block) {
		l = l[:cap(l)]
		for i := range l {
			for at := range l[i] {
				l[i][at] ^= 255
			}
		}
	}
	for _, c := range configs() {
		x := version(c.K, 0, 4)
		r := with(t, c, x)
		_, first := Look(r, c, 0)
		_, second := Look(r, c, 0)
		a, _, _ := Get(r, c, 0)
		b, _, _ := Get(r, c, 0)
		spoilParts(first)
		spoilBlocks(a)
		for d, p := range second {
			data := fragmentOf(x.blocks, d)
			if p.At != d || !bytes.Equal(p.Data, data[:]) {
				t.Errorf("%v: what Look told of disk %d changes with what it told before", c, d)
			}
			// Spoiling a part leaves those that come behind it as they are.
			spoilParts(second[d : d+1 : d+1])
		}
		if !slices.Equal(b, x.blocks) {
			t.Errorf("%v: what Get told changes with what it told before", c)
		}
		spoilBlocks(b)
		stands(t, "told again", r, c, x, below(c.N)...)
		r.Boot()
		stands(t, "told again, booted", r, c, x, below(c.N)...)
	}
}

// P11.2, R2: Put changes nothing of what it is given, up to the end of its capacity, and keeps nothing of it.
func TestPutLeavesItsBlocks(t *testing.T) {
	for _, c := range []api.Config{plain(), config(3, 3, 4, 1), config(3, 8, 4, 1)} {
		for _, many := range []int{0, 2, 3, 4} {
			memory := blocks(9, 13)
			r := with(t, c, version(3, 1, 2))
			Put(r, c, 1, 6, memory[3:3+many])
			if !slices.Equal(memory, blocks(9, 13)) {
				t.Errorf("%d of the blocks have changed", many)
			}
			if many != 3 {
				stands(t, "refused", r, c, version(3, 1, 2), below(c.N)...)
				continue
			}
			want := put{1, 6, blocks(9, 13)[3:6]}
			clear(memory)
			stands(t, "the blocks are others now", r, c, want, below(c.N)...)
			r.Boot()
			stands(t, "the blocks are others now, booted", r, c, want, below(c.N)...)
		}
	}
}

// R5: what stands behind the blocks counts for nothing.
func TestPutReadsNoCapacity(t *testing.T) {
	c := plain()
	for salt := range 3 {
		memory := slices.Concat(blocks(3, 4), blocks(5, salt))
		r := made(t, c, 0)
		done(t, "Put", Put(r, c, 3, 8, memory[:3]))
		stands(t, "three of eight", r, c, put{3, 8, blocks(3, 4)}, below(5)...)
		refused(t, "two of eight", Put(r, c, 3, 9, memory[:2]), at("stripe.Put", 3, api.ErrArg))
		refused(t, "none of eight", Put(r, c, 3, 9, memory[:0]), at("stripe.Put", 3, api.ErrArg))
	}
}

// P11.3: a disk reads what waits ahead of what is stored; behind a crash, what came of it.
func TestWhatWaits(t *testing.T) {
	c := config(2, 3, 2, 1)
	x, y := version(2, 1, 4), version(2, 1, 5)
	write := func(r *rack.Rack) {
		for d := range 3 {
			done(t, "Write", r.Write(d, place(c, 1), bytesOf(y.frame(d))))
		}
	}
	r := with(t, c, x)
	write(r)
	stands(t, "it waits", r, c, y, 0, 1, 2)
	r.Boot()
	stands(t, "it is lost", r, c, x, 0, 1, 2)
	write(r)
	r.Boot(0, 1)
	stands(t, "one is stored", r, c, y, 1)
	write(r)
	r.Boot(0, 0, 1)
	stands(t, "two are stored", r, c, y, 1, 2)
	// What is rotten under what waits comes to light if that is lost.
	write(r)
	r.Rot(2, place(c, 1), 60, 1)
	stands(t, "it waits over a rotten one", r, c, y, 0, 1, 2)
	r.Boot()
	stands(t, "it is lost over a rotten one", r, c, y, 1)
}

// P11.5: a Put over an older stripe that a power failure cuts short at each operation, with each set of what waits
// being stored: the newer one is told, or the older one if no disk has the newer one, or a Loss.
func TestCutShort(t *testing.T) {
	for _, c := range []api.Config{config(2, 4, 3, 2), config(1, 3, 3, 1), config(3, 3, 3, 1)} {
		old, x, beside := version(c.K, 1, 5), version(c.K, 1, 6), version(c.K, 2, 7)
		operations := x.operations(c, below(c.N))
		for fuse, o := range operations {
			for set := range 1 << c.N {
				r := with(t, c, old, beside)
				r.Arm(fuse)
				refused(t, "cut short", x.to(r, c), at("stripe.Put", 1, o.error()))
				getRefused(t, "off", r, c, 1, api.ErrUnavail)
				var kept []uint64
				for d := range c.N {
					kept = append(kept, uint64(set>>d%2))
				}
				r.Boot(kept...)
				has := slices.DeleteFunc(slices.Clone(below(c.N)), func(d int) bool {
					return d >= fuse || set>>d%2 == 0 && d >= fuse-c.N
				})
				if len(has) == 0 {
					stands(t, "the older one", r, c, old, below(c.N)...)
				} else {
					stands(t, "the newer one", r, c, x, has...)
				}
				stands(t, "another stripe", r, c, beside, below(c.N)...)
				done(t, "Put again", x.to(r, c))
				r.Boot()
				stands(t, "Put again", r, c, x, below(c.N)...)
			}
		}
	}
}

// P11.2: a Put takes the place of whatever generation was there, a greater one too; on a disk that was not online then,
// the greater one stays and is the newest.
func TestPutOver(t *testing.T) {
	c := plain()
	r := made(t, c, 0)
	for _, gen := range []int{1 << 60, 1, 4, 1<<60 - 2, 8, 8, 6} {
		x := version(3, 3, gen)
		done(t, "Put", x.to(r, c))
		stands(t, "Put", r, c, x, below(5)...)
	}
	x := put{3, 6, blocks(3, 99)}
	done(t, "Put", x.to(r, c))
	stands(t, "the same generation, other blocks", r, c, x, below(5)...)
	layFrames(t, r, c, version(3, 3, 9), 4)
	stands(t, "a greater one on one disk", r, c, version(3, 3, 9), 4)
	done(t, "Put", version(3, 3, 2).to(r, c))
	stands(t, "a smaller one everywhere", r, c, version(3, 3, 2), below(5)...)
}

// P11.1: the stripes have nothing to do with each other.
func TestStripesApart(t *testing.T) {
	c := config(2, 4, 6, 2)
	r := made(t, c, 0)
	for s := range c.Stripes {
		done(t, "Put", version(2, s, 10-s).to(r, c))
	}
	r.Rot(1, place(c, 2), 40, 1)
	layFrames(t, r, c, version(2, 4, 20), 0)
	wipe(t, r, c, 5, below(4)...)
	for s, has := range [][]int{below(4), below(4), {0, 2, 3}, below(4), {0}, nil} {
		x := version(2, s, 10-s)
		switch s {
		case 4:
			x = version(2, 4, 20)
		case 5:
			x = put{s: 5}
		}
		stands(t, "apart", r, c, x, has...)
	}
}

// P11.4, P11.5: each bit of the blocks counts, whichever two of the disks they are read from.
func TestEachBit(t *testing.T) {
	c := config(2, 4, 1, 1)
	pairs := [][]int{{0, 1}, {0, 2}, {0, 3}, {1, 2}, {1, 3}, {2, 3}}
	for bit := range 2 * api.Data * 8 {
		x := version(2, 0, 3)
		x.blocks[bit%2][bit/16] ^= 1 << (bit / 2 % 8)
		r := with(t, c, x)
		left := pairs[bit%len(pairs)]
		for _, d := range without(4, left...) {
			r.Die(d)
		}
		stands(t, "one bit", r, c, x, left...)
	}
}

// the chapter's example run
func TestExampleRun(t *testing.T) {
	c := config(2, 3, 1, 1)
	for dying := range 3 {
		for rotting := range 3 {
			if rotting == dying {
				continue
			}
			r := made(t, c, 0)
			done(t, "Put", version(2, 0, 5).to(r, c))
			r.Die(dying)
			gets(t, "a disk dies", r, c, version(2, 0, 5))
			r.Replace(dying)
			done(t, "Put", version(2, 0, 6).to(r, c))
			if !r.Rot(rotting, 3, 50, 1) {
				t.Error("no rot")
			}
			gets(t, "another one rots", r, c, version(2, 0, 6))
		}
	}
}

// R4, R8: two racks have nothing to do with each other.
func TestTwoRacks(t *testing.T) {
	one, two := plain(), config(1, 2, 3, 1)
	a, b := made(t, one, 0), made(t, two, 0)
	for gen := 2; gen < 8; gen++ {
		done(t, "Put", version(3, 1, gen).to(a, one))
		done(t, "Put", version(1, 1, gen+90).to(b, two))
		stands(t, "the one", a, one, version(3, 1, gen), below(5)...)
		stands(t, "the other one", b, two, version(1, 1, gen+90), 0, 1)
	}
	b.Die(0)
	b.Die(1)
	stands(t, "the one", a, one, version(3, 1, 7), below(5)...)
	getRefused(t, "the other one", b, two, 1, api.ErrUnavail)
}
